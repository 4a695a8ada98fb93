/- Parts of the proof, packed: Funs, PkHead, PkCalls, PkRd, PkRes, PkRead, PkValid, PkMis, PkBox, Ref. -/
import Derived.Test.YtpabfjhjehjebaaDoorSDec2
import Derived.Test.YtpabfjhjehjebaaDoorSDec5
import Derived.OwnWalk
import Derived.Lib.ConvBytes
import Derived.Deep.CutRange
import Derived.Test.YtpabfjhjehjebaaDoorSDec4
/- The program's functions on bits: List, Nth, Rank, Spread, Gather. -/
namespace Go.Proofs.YtpabfjhjehjebaaDoor
open Go.RowKit Bs

set_option maxRecDepth 100000 in
theorem Tb.grown {w w' : World} {r : Option Nat} (h : Tb w) (g : w.grownBy w' r) (hr : r ≠ some 0) : Tb w' := by
  intro j hj
  exact g.cell (h j hj) (fun e => hr e.symm)
set_option maxRecDepth 100000 in
theorem Tb.keep {w w' : World} (h : Tb w) (g : w.grownBy w' none) : Tb w' := h.grown g (by simp)

set_option maxRecDepth 100000 in
theorem fst_pos {c : Nat} (h : c ≠ 0) : fst c = ((Lib.ctz 64 c : Nat) : Int) := by unfold fst; rw [if_neg h]

/-- The j lowest bits. -/
def tk (b j : Nat) : List Nat := (bl b).take j
set_option maxRecDepth 100000 in
theorem tk_le (b j : Nat) : (tk b j).length ≤ 64 := by unfold tk; rw [List.length_take]; have := bl_length_le b; omega
def ListRel (b : Nat) (w : World) (v : Value) (c j : Nat) (wr : World) : Prop :=
  Strip b c j ∧ wr.ownsRow w.heap.size 3 1 v (tk b j).length ((tk b j).map ival) ∧ w.grownBy wr none
set_option maxRecDepth 100000 in
theorem list_hit {b c j : Nat} {w wr w1 : World} {v v' : Value} {o : Obj} (h : ListRel b w v c j wr) (h0 : c ≠ 0)
    (hown' : w1.ownsRow w.heap.size 3 1 v' ((tk b j).length + 1) ((tk b j).map ival ++ [.int .i64 (fst c)])) (hg : (wr.alloc o).grownBy w1 v.ownBlock) : ListRel b w v' (wo c) (j + 1) w1 := by
  obtain ⟨h1, h2⟩ := h.1.step h0
  refine ⟨h1, ?_, own_step h.2.2 h.2.1 hg⟩
  unfold tk at hown' ⊢
  rw [take_next h2, List.length_append, List.map_append]
  rw [fst_pos h0] at hown'
  exact hown'
set_option maxRecDepth 100000 in
set_option maxHeartbeats 400000 in
theorem firstp_pos (c : Nat) (hc : U64 c) (h0 : c ≠ 0) (w : World) (hT : Tb w) :
    Calls Tryd.prog 97 #[.int .u64 (c : Int)] w fun e w' => e = .returned (.int .i64 ((Lib.ctz 64 c : Nat) : Int)) ∧ w = w' := by
  have := firstp_any c hc w hT
  rwa [fst_pos h0] at this

set_option maxRecDepth 100000 in
theorem lo_word (k : Nat) (hk : k ≤ 63) : IntKind.u64.wrap (IntKind.u64.wrap (2 ^ k) - 1) = ((lo k : Nat) : Int) := by
  rw [pow_word k (by omega)]
  have h := (b2_u64 (k := k) (by omega)).lt
  have h0 : 0 < 2 ^ k := Nat.pow_pos (by decide)
  unfold b2 at h ⊢
  unfold lo
  rw [IntKind.wrap_u64]; omega
end Go.Proofs.YtpabfjhjehjebaaDoor

/- packet: a header's block. -/
namespace Go.Proofs.YtpabfjhjehjebaaDoor
open Go.RowKit Bs
/-- While the header is written. -/
structure WH (W : World) (P : Pk) (h g S : Nat) (B : List Bool) (w : World) : Prop where
  fb : w.heap[g]? = some (.cells (fcells h) 111 (0, 0))
  hb : w.heap[h]? = some (.cells (hcells P) 88 (0, 0))
  st : ∃ p c, w.heap[S]? = some (.cells #[.slice p (pk B).length c, .int .i64 (B.length : Int)] 74 (0, 0)) ∧ Rd w (S < ·) (.slice p (pk B).length c) ((pk B).map nv) ∧ (p = none → c = 0)
  rb : w.heap[W.heap.size + 1]? = some (.cells #[.slice none 0 0, .int .i64 0] 74 (0, 0))
  gr : W.grownBy w none
set_option maxRecDepth 100000 in
theorem World.lt_of_row' {w : World} {b : Nat} {o : Obj} (h : w.heap[b]? = some o) : b < w.heap.size := (Array.getElem?_eq_some_iff.1 h).1
def pcells (P : Pk) : Array Value := #[.int .i64 P.mode, .int .i64 P.sub, .int .i64 P.set, .int .i64 P.len, .int .i64 P.ttl, .int .i64 P.ent, .int .i64 P.ing, .int .i64 P.pro, .int .u64 (P.bits : Int), .string P.pay]
set_option maxRecDepth 100000 in
theorem p_facts {w : World} {b : Nat} {P : Pk} (h : w.heap[b]? = some (.cells (pcells P) 31 (0, 0))) :
    w.cell? ⟨b, 0, none⟩ = some (.int .i64 P.mode) ∧ w.cell? ⟨b, 1, none⟩ = some (.int .i64 P.sub) ∧ w.cell? ⟨b, 2, none⟩ = some (.int .i64 P.set) ∧ w.cell? ⟨b, 3, none⟩ = some (.int .i64 P.len) ∧ w.cell? ⟨b, 4, none⟩ = some (.int .i64 P.ttl) ∧ w.cell? ⟨b, 5, none⟩ = some (.int .i64 P.ent) ∧ w.cell? ⟨b, 6, none⟩ = some (.int .i64 P.ing) ∧ w.cell? ⟨b, 7, none⟩ = some (.int .i64 P.pro) ∧ w.cell? ⟨b, 8, none⟩ = some (.int .u64 (P.bits : Int)) ∧ w.cell? ⟨b, 9, none⟩ = some (.string P.pay) :=
  ⟨cell_of_row _ _ _ _ _ _ h, cell_of_row _ _ _ _ _ _ h, cell_of_row _ _ _ _ _ _ h, cell_of_row _ _ _ _ _ _ h, cell_of_row _ _ _ _ _ _ h, cell_of_row _ _ _ _ _ _ h, cell_of_row _ _ _ _ _ _ h, cell_of_row _ _ _ _ _ _ h, cell_of_row _ _ _ _ _ _ h, cell_of_row _ _ _ _ _ _ h⟩
def zcells : Array Value := #[.int .i64 0, .int .i64 0, .int .i64 0, .int .i64 0, .int .i64 0, .int .i64 0, .int .i64 0, .int .i64 0, .int .i64 0, .int .u64 0, .string ⟨#[]⟩, .int .i64 0, .int .i64 0]
set_option maxRecDepth 100000 in
theorem h_facts {w : World} {h : Nat} (hr : w.heap[h]? = some (.cells zcells 88 (0, 0))) :
    w.frozen? ⟨h, 0, none⟩ = false ∧ w.frozen? ⟨h, 1, none⟩ = false ∧ w.frozen? ⟨h, 2, none⟩ = false ∧ w.frozen? ⟨h, 3, none⟩ = false ∧ w.frozen? ⟨h, 4, none⟩ = false ∧ w.frozen? ⟨h, 5, none⟩ = false ∧ w.frozen? ⟨h, 6, none⟩ = false ∧ w.frozen? ⟨h, 7, none⟩ = false ∧ w.frozen? ⟨h, 8, none⟩ = false ∧ w.frozen? ⟨h, 9, none⟩ = false ∧ w.frozen? ⟨h, 10, none⟩ = false ∧ w.frozen? ⟨h, 11, none⟩ = false ∧ w.frozen? ⟨h, 12, none⟩ = false :=
  ⟨frozen_of_row _ _ 0 _ _ hr, frozen_of_row _ _ 1 _ _ hr, frozen_of_row _ _ 2 _ _ hr, frozen_of_row _ _ 3 _ _ hr, frozen_of_row _ _ 4 _ _ hr, frozen_of_row _ _ 5 _ _ hr, frozen_of_row _ _ 6 _ _ hr, frozen_of_row _ _ 7 _ _ hr, frozen_of_row _ _ 8 _ _ hr, frozen_of_row _ _ 9 _ _ hr, frozen_of_row _ _ 10 _ _ hr, frozen_of_row _ _ 11 _ _ hr, frozen_of_row _ _ 12 _ _ hr⟩
/-- A stream of these bits is returned. -/
def BP (B : List Bool) (w : World) (e : Ending) (w' : World) : Prop := ∃ p c, e = .returned (.agg #[.slice p (pk B).length c, .int .i64 (B.length : Int)]) ∧ Rd w' (w.heap.size ≤ ·) (.slice p (pk B).length c) ((pk B).map nv) ∧ (p = none → c = 0) ∧ w.grownBy w' none
section
variable {W w w1 : World} {P : Pk} {h g S : Nat} {B B2 : List Bool}
set_option maxRecDepth 100000 in
theorem WH.keep (H : WH W P h g S B w) (k : w.grownBy w1 none) : WH W P h g S B w1 := by
  obtain ⟨p, c, h1, h2, h3⟩ := H.st
  exact ⟨kept_row H.fb k (by simp), kept_row H.hb k (by simp), ⟨p, c, kept_row h1 k (by simp), h2.keep k, h3⟩, kept_row H.rb k (by simp), grown_trans H.gr k⟩
set_option maxRecDepth 100000 in
theorem WH.turn (H : WH W P h g S B w) (hN : S ≠ h ∧ S ≠ g ∧ W.heap.size + 2 ≤ S) {p2 : Option Addr} {c2 : Nat} (hR : Rd w (S < ·) (.slice p2 (pk B2).length c2) ((pk B2).map nv)) (hp : p2 = none → c2 = 0) :
    WH W P h g S B2 ((w.setCell ⟨S, 0, none⟩ (.slice p2 (pk B2).length c2)).setCell ⟨S, 1, none⟩ (.int .i64 (B2.length : Int))) := by
  have k := grown_store2 w S (.slice p2 (pk B2).length c2) (.int .i64 (B2.length : Int))
  obtain ⟨p, c, h1, _, _⟩ := H.st
  exact ⟨kept_row H.fb k (fun e => hN.2.1 (Option.some.inj e).symm), kept_row H.hb k (fun e => hN.1 (Option.some.inj e).symm), ⟨p2, c2, store2 h1, hR.grown k (fun b hb e => by have := Option.some.inj e; omega), hp⟩,
    kept_row H.rb k (fun e => by have := Option.some.inj e; omega), grown_new H.gr k (by omega)⟩
set_option maxRecDepth 100000 in
theorem Rd.weaken {q q' : Nat → Prop} {v : Value} {vs : List Value} (h : Rd w q v vs) (hq : ∀ b, q b → b < w.heap.size → q' b) : Rd w q' v vs := by
  obtain ⟨p, c, hv, hc⟩ := h
  refine ⟨p, c, hv, fun hne => ?_⟩
  obtain ⟨b, off, hp, hb, hx⟩ := hc hne
  refine ⟨b, off, hp, hq b hb ?_, hx⟩
  cases vs with
  | nil => exact absurd rfl hne
  | cons y r => exact World.block_lt_of_cell? w ⟨b, off + 0, none⟩ (hx 0 y rfl)
set_option maxRecDepth 100000 in
theorem Rd.bound {w : World} {q : Nat → Prop} {v : Value} {vs : List Value} (h : Rd w q v vs) : Rd w (· < w.heap.size) v vs := by
  obtain ⟨p, c, hv, hc⟩ := h
  refine ⟨p, c, hv, fun hne => ?_⟩
  obtain ⟨b, off, hp, _, hx⟩ := hc hne
  refine ⟨b, off, hp, ?_, hx⟩
  cases vs with
  | nil => exact absurd rfl hne
  | cons y r => exact World.block_lt_of_cell? w ⟨b, off + 0, none⟩ (hx 0 y rfl)
set_option maxRecDepth 100000 in
/-- What Append gives to a list of bits. -/
theorem append_bits {p : Option Addr} {c v k : Nat} {q : Nat → Prop} (hk : k ≤ 64) (hv : v < 2 ^ k) (hl : B.length + k ≤ 8192) (hR : Rd w q (.slice p (pk B).length c) ((pk B).map nv)) :
    Calls Tryd.prog 86 #[.agg #[.slice p (pk B).length c, .int .i64 (B.length : Int)], .int .u64 (v : Int), .int .i64 (k : Int)] w fun e w' =>
      ∃ p2 c2, e = .returned (.tuple #[.agg #[.slice p2 (pk (B ++ nb v k)).length c2, .int .i64 ((B ++ nb v k).length : Int)], .int .i64 0]) ∧ Rd w' (w.heap.size ≤ ·) (.slice p2 (pk (B ++ nb v k)).length c2) ((pk (B ++ nb v k)).map nv) ∧ (p2 = none → c2 = 0) ∧ w.grownBy w' none := by
  have hvU : U64 v := Nat.lt_of_lt_of_le hv (Nat.pow_le_pow_right (n := 2) (by decide) hk)
  refine (appendp_any (pk B) (B.length : Int) v (k : Int) _ p c (pk_by B) hvU w (fun _ h => h) hR.bound).mono fun e w' hp => ?_
  rw [apV_pk B v k hk hv hl] at hp
  obtain ⟨u, he, ⟨p2, c2, rfl, h1, h2, _⟩, hg⟩ := hp
  exact ⟨p2, c2, he, h1, h2, hg⟩
end
end Go.Proofs.YtpabfjhjehjebaaDoor

/- packet: the calls of bitio over lists of bits. -/
namespace Go.Proofs.YtpabfjhjehjebaaDoor
open Go.RowKit Bs
section
variable {w : World} {B : List Bool} {p : Option Addr} {c : Nat} {q : Nat → Prop}
/-- A stream of these bits and no error are returned. -/
def BT (B : List Bool) (w : World) (e : Ending) (w' : World) : Prop :=
  ∃ p2 c2, e = .returned (.tuple #[.agg #[.slice p2 (pk B).length c2, .int .i64 (B.length : Int)], .int .i64 0]) ∧ Rd w' (w.heap.size ≤ ·) (.slice p2 (pk B).length c2) ((pk B).map nv) ∧ (p2 = none → c2 = 0) ∧ w.grownBy w' none
set_option maxRecDepth 100000 in
theorem join_bits {l : List Nat} {p' : Option Addr} {c' : Nat} {q' : Nat → Prop} (hl : By l) (h : B.length + 8 * l.length ≤ 8192) (hR : Rd w q (.slice p (pk B).length c) ((pk B).map nv)) (hR' : Rd w q' (.slice p' l.length c') (l.map nv)) :
    Calls Tryd.prog 87 #[.agg #[.slice p (pk B).length c, .int .i64 (B.length : Int)], .agg #[.slice p' l.length c', .int .i64 ((8 * l.length : Nat) : Int)]] w fun e w' => BT (B ++ pb l) w e w' := by
  refine (joinp_any (pk B) l (B.length : Int) ((8 * l.length : Nat) : Int) _ p p' c c' (pk_by B) hl w (fun _ h => h) hR.bound hR'.bound).mono fun e w' hp => ?_
  have e1 := jnV_pk B (pb l) (by rw [pb_len]; exact h)
  rw [pk_pb l hl, pb_len] at e1
  rw [e1] at hp
  obtain ⟨u, he, ⟨p2, c2, rfl, h1, h2, _⟩, hg⟩ := hp
  exact ⟨p2, c2, he, h1, h2, hg⟩
set_option maxRecDepth 100000 in
theorem chk_same {f g : Nat → Bool} : ∀ k, (∀ i, i < k → f i = g i) → chk f k = chk g k
  | 0, _ => rfl
  | k + 1, h => by
    unfold chk
    rw [chk_same k fun i hi => h i (by omega), h k (by omega)]
set_option maxRecDepth 100000 in
theorem check_bits (h : B.length ≤ 8192) (hR : Rd w q (.slice p (pk B).length c) ((pk B).map nv)) :
    Calls Tryd.prog 84 #[.agg #[.slice p (pk B).length c, .int .i64 (B.length : Int)]] w fun e w' => e = .returned (.tuple #[.int .u64 ((ck B : Nat) : Int), .int .i64 0]) ∧ w.grownBy w' none := by
  refine (checkp_any (pk B) (B.length : Int) _ p c (pk_by B) w hR.bound).mono fun e w' hp => ?_
  obtain ⟨he, hg⟩ := hp
  rw [chkV_ok (pk_vs B h)] at he
  rw [show ck B = chk (bt (pk B)) B.length from (chk_same _ fun i hi => bt_pk B i (by omega)).symm]
  exact ⟨he, hg⟩
set_option maxRecDepth 100000 in
theorem align_bits (h : B.length ≤ 8192) (hR : Rd w q (.slice p (pk B).length c) ((pk B).map nv)) :
    Calls Tryd.prog 88 #[.agg #[.slice p (pk B).length c, .int .i64 (B.length : Int)]] w fun e w' =>
      ∃ p2 c2, e = .returned (.tuple #[.agg #[.slice p2 (pk B).length c2, .int .i64 ((8 * (pk B).length : Nat) : Int)], .int .i64 0]) ∧ Rd w' (w.heap.size ≤ ·) (.slice p2 (pk B).length c2) ((pk B).map nv) ∧ (p2 = none → c2 = 0) ∧ w.grownBy w' none := by
  refine (alignp_any (pk B) (B.length : Int) _ p c (pk_by B) w hR.bound).mono fun e w' hp => ?_
  rw [alV_pk B h] at hp
  obtain ⟨u, he, ⟨p2, c2, rfl, h1, h2, _⟩, hg⟩ := hp
  exact ⟨p2, c2, he, h1, h2, hg⟩
set_option maxRecDepth 100000 in
theorem bw_grown (w : World) (e : TypeId) (s : ByteArray) : w.grownBy (Lib.bytesWorld w e s) none :=
  ⟨rfl, rfl, rfl, by rw [Lib.bytesWorld_size]; omega, fun j hj _ => Lib.bytesWorld_at_old w e s j hj⟩
set_option maxRecDepth 100000 in
theorem bw_rd (w : World) (e : TypeId) (s : ByteArray) (c : Nat) : Rd (Lib.bytesWorld w e s) (· = w.heap.size) (.slice (some ⟨w.heap.size, 0, none⟩) (byl s).length c) ((byl s).map nv) := by
  refine ⟨_, c, by rw [List.length_map], fun _ => ⟨w.heap.size, 0, rfl, rfl, fun j x hj => ?_⟩⟩
  have hl : j < s.size := by
    have := (List.getElem?_eq_some_iff.1 hj).1
    rw [List.length_map, byl_len] at this; exact this
  rw [Nat.zero_add, Lib.bytesWorld_cell w e s j hl]
  unfold byl at hj
  rw [List.map_map, List.getElem?_map] at hj
  have hd : j < s.data.toList.length := by rw [Array.length_toList]; exact hl
  rw [List.getElem?_eq_getElem hd] at hj
  rw [List.getD_eq_getElem?_getD, List.getElem?_eq_getElem hd]
  exact hj
end
end Go.Proofs.YtpabfjhjehjebaaDoor

/- packet: the header of a packet is read. -/
namespace Go.Proofs.YtpabfjhjehjebaaDoor
open Go.RowKit Bs
/-- A header's cells behind k fields. -/
def hdc (V : Nat → Nat) (k : Nat) (n : Int) : Array Value := #[.int .i64 ((if 0 < k then V 0 else 0 : Nat) : Int), .int .i64 ((if 1 < k then V 1 else 0 : Nat) : Int), .int .i64 ((if 2 < k then V 2 else 0 : Nat) : Int), .int .i64 ((if 3 < k then V 3 else 0 : Nat) : Int), .int .i64 n, .int .i64 ((if 5 < k then V 5 else 0 : Nat) : Int), .int .i64 ((if 6 < k then V 6 else 0 : Nat) : Int), .int .i64 ((if 7 < k then V 7 else 0 : Nat) : Int), .int .i64 ((if 8 < k then V 8 else 0 : Nat) : Int), .int .u64 0, .string ⟨#[]⟩, .int .i64 ((if 4 < k then V 4 else 0 : Nat) : Int), .int .i64 ((if 9 < k then V 9 else 0 : Nat) : Int)]
def wids : List Nat := [2, 2, 3, 5, 2, 6, 10, 9, 3, 7]
def offs : List Nat := [0, 2, 4, 7, 12, 14, 20, 30, 39, 42, 49]
/-- The number in field k of these bytes. -/
def fv (l : List Nat) (k : Nat) : Nat := num (bt l) (offs.getD k 0) (wids.getD k 0)
set_option maxRecDepth 100000 in
theorem read_at (V : Nat → Nat) (h k : Nat) (hk : k < 10) : ∃ o : Nat, (fcells h)[k * 2]? = some (.pointer (some ⟨h, o, none⟩)) ∧ (fcells h)[k * 2 + 1]? = some (.int .i64 ((wids.getD k 0 : Nat) : Int)) ∧ (hdc V k 0)[o]? = some (.int .i64 0) ∧ (hdc V k 0).setIfInBounds o (.int .i64 ((V k : Nat) : Int)) = hdc V (k + 1) 0 ∧
    offs.getD (k + 1) 0 = offs.getD k 0 + wids.getD k 0 ∧ wids.getD k 0 ≤ 10 ∧ offs.getD k 0 + wids.getD k 0 ≤ 49 := by
  rcases (show k = 0 ∨ k = 1 ∨ k = 2 ∨ k = 3 ∨ k = 4 ∨ k = 5 ∨ k = 6 ∨ k = 7 ∨ k = 8 ∨ k = 9 by omega) with rfl | rfl | rfl | rfl | rfl | rfl | rfl | rfl | rfl | rfl
  · exact ⟨0, rfl, rfl, rfl, rfl, rfl, by decide, by decide⟩
  · exact ⟨1, rfl, rfl, rfl, rfl, rfl, by decide, by decide⟩
  · exact ⟨2, rfl, rfl, rfl, rfl, rfl, by decide, by decide⟩
  · exact ⟨3, rfl, rfl, rfl, rfl, rfl, by decide, by decide⟩
  · exact ⟨11, rfl, rfl, rfl, rfl, rfl, by decide, by decide⟩
  · exact ⟨5, rfl, rfl, rfl, rfl, rfl, by decide, by decide⟩
  · exact ⟨6, rfl, rfl, rfl, rfl, rfl, by decide, by decide⟩
  · exact ⟨7, rfl, rfl, rfl, rfl, rfl, by decide, by decide⟩
  · exact ⟨8, rfl, rfl, rfl, rfl, rfl, by decide, by decide⟩
  · exact ⟨12, rfl, rfl, rfl, rfl, rfl, by decide, by decide⟩
set_option maxRecDepth 100000 in
theorem vs_whole {l : List Nat} (h : 8 * l.length ≤ 8192) : vs l ((8 * l.length : Nat) : Int) = true := vs_iff.2 ⟨h, by omega, fun i h1 h2 => absurd h2 (by omega)⟩
/-- While a header is read. -/
structure RD (W : World) (l : List Nat) (p : Option Addr) (c : Nat) (V : Nat → Nat) (g k : Nat) (w : World) : Prop where
  fb : w.heap[g]? = some (.cells (fcells (W.heap.size + 1)) 111 (0, 0))
  hb : w.heap[W.heap.size + 1]? = some (.cells (hdc V k 0) 88 (0, 0))
  sb : w.heap[W.heap.size + 2]? = some (.cells #[.slice p l.length c, .int .i64 (8 * (l.length : Int))] 74 (0, 0))
  rb : w.heap[W.heap.size]? = some (.cells zcells 88 (0, 0))
  rd : Rd w (· < W.heap.size) (.slice p l.length c) (l.map nv)
  gr : W.grownBy w none
section
variable {W w w1 : World} {l : List Nat} {p : Option Addr} {c : Nat} {V : Nat → Nat} {g k : Nat}
set_option maxRecDepth 100000 in
theorem RD.keep (H : RD W l p c V g k w) (j : w.grownBy w1 none) : RD W l p c V g k w1 :=
  ⟨kept_row H.fb j (by simp), kept_row H.hb j (by simp), kept_row H.sb j (by simp), kept_row H.rb j (by simp), H.rd.keep j, grown_trans H.gr j⟩
set_option maxRecDepth 100000 in
theorem RD.turn (H : RD W l p c V g k w) (hg : W.heap.size + 2 < g) {o : Nat} (ho : (hdc V k 0).setIfInBounds o (.int .i64 ((V k : Nat) : Int)) = hdc V (k + 1) 0) :
    RD W l p c V g (k + 1) (w.setCell ⟨W.heap.size + 1, o, none⟩ (.int .i64 ((V k : Nat) : Int))) := by
  have j := grown_setCell w ⟨W.heap.size + 1, o, none⟩ (.int .i64 ((V k : Nat) : Int))
  refine ⟨kept_row H.fb j (fun e => by have : g = W.heap.size + 1 := Option.some.inj e; omega), ?_, kept_row H.sb j (fun e => by have : W.heap.size + 2 = W.heap.size + 1 := Option.some.inj e; omega), kept_row H.rb j (fun e => by have : W.heap.size = W.heap.size + 1 := Option.some.inj e; omega), H.rd.grown j (fun b hb e => by have : b = W.heap.size + 1 := Option.some.inj e; omega), grown_new H.gr j (by show W.heap.size ≤ W.heap.size + 1; omega)⟩
  rw [← ho]
  exact heap_setCell_same w _ o _ _ _ H.hb
end
end Go.Proofs.YtpabfjhjehjebaaDoor

/- packet: a header's value comes back. -/
namespace Go.Proofs.YtpabfjhjehjebaaDoor
open Go.RowKit Bs
set_option maxRecDepth 100000 in
theorem three_new (w : World) (A B C : Obj) : (((w.alloc A).alloc B).alloc C).heap[w.heap.size]? = some A ∧ (((w.alloc A).alloc B).alloc C).heap[w.heap.size + 1]? = some B ∧ (((w.alloc A).alloc B).alloc C).heap[w.heap.size + 2]? = some C ∧ w.grownBy (((w.alloc A).alloc B).alloc C) none ∧ (((w.alloc A).alloc B).alloc C).heap.size = w.heap.size + 3 := by
  have g1 := World.grownBy_alloc w A none
  have g2 := World.grownBy_alloc (w.alloc A) B none
  have g3 := World.grownBy_alloc ((w.alloc A).alloc B) C none
  have s1 : (w.alloc A).heap.size = w.heap.size + 1 := by simp
  have s2 : ((w.alloc A).alloc B).heap.size = w.heap.size + 2 := by simp
  have h1 := heap_alloc_new w A
  have h2 := heap_alloc_new (w.alloc A) B
  have h3 := heap_alloc_new ((w.alloc A).alloc B) C
  rw [s1] at h2
  rw [s2] at h3
  exact ⟨kept_row (kept_row h1 g2 (by simp)) g3 (by simp), kept_row h2 g3 (by simp), h3, grown_trans g1 (grown_trans g2 g3), by simp⟩
set_option maxRecDepth 100000 in
theorem hput_row {w : World} {h : Nat} (v0 v1 v2 v3 v4 v5 v6 v7 v8 v9 v10 v11 v12 : Value) (hr : w.heap[h]? = some (.cells zcells 88 (0, 0))) :
    (((((((((((((w.setCell ⟨h, 0, none⟩ v0).setCell ⟨h, 1, none⟩ v1).setCell ⟨h, 2, none⟩ v2).setCell ⟨h, 3, none⟩ v3).setCell ⟨h, 4, none⟩ v4).setCell ⟨h, 5, none⟩ v5).setCell ⟨h, 6, none⟩ v6).setCell ⟨h, 7, none⟩ v7).setCell ⟨h, 8, none⟩ v8).setCell ⟨h, 9, none⟩ v9).setCell ⟨h, 10, none⟩ v10).setCell ⟨h, 11, none⟩ v11).setCell ⟨h, 12, none⟩ v12).heap[h]? = some (.cells #[v0, v1, v2, v3, v4, v5, v6, v7, v8, v9, v10, v11, v12] 88 (0, 0)) := by
  have e0 := heap_setCell_same _ h 0 _ _ v0 hr
  generalize w.setCell ⟨h, 0, none⟩ v0 = w0 at *
  replace e0 : w0.heap[h]? = some (.cells #[v0, .int .i64 0, .int .i64 0, .int .i64 0, .int .i64 0, .int .i64 0, .int .i64 0, .int .i64 0, .int .i64 0, .int .u64 0, .string ⟨#[]⟩, .int .i64 0, .int .i64 0] 88 (0, 0)) := e0
  have e1 := heap_setCell_same _ h 1 _ _ v1 e0
  generalize w0.setCell ⟨h, 1, none⟩ v1 = w1 at *
  replace e1 : w1.heap[h]? = some (.cells #[v0, v1, .int .i64 0, .int .i64 0, .int .i64 0, .int .i64 0, .int .i64 0, .int .i64 0, .int .i64 0, .int .u64 0, .string ⟨#[]⟩, .int .i64 0, .int .i64 0] 88 (0, 0)) := e1
  have e2 := heap_setCell_same _ h 2 _ _ v2 e1
  generalize w1.setCell ⟨h, 2, none⟩ v2 = w2 at *
  replace e2 : w2.heap[h]? = some (.cells #[v0, v1, v2, .int .i64 0, .int .i64 0, .int .i64 0, .int .i64 0, .int .i64 0, .int .i64 0, .int .u64 0, .string ⟨#[]⟩, .int .i64 0, .int .i64 0] 88 (0, 0)) := e2
  have e3 := heap_setCell_same _ h 3 _ _ v3 e2
  generalize w2.setCell ⟨h, 3, none⟩ v3 = w3 at *
  replace e3 : w3.heap[h]? = some (.cells #[v0, v1, v2, v3, .int .i64 0, .int .i64 0, .int .i64 0, .int .i64 0, .int .i64 0, .int .u64 0, .string ⟨#[]⟩, .int .i64 0, .int .i64 0] 88 (0, 0)) := e3
  have e4 := heap_setCell_same _ h 4 _ _ v4 e3
  generalize w3.setCell ⟨h, 4, none⟩ v4 = w4 at *
  replace e4 : w4.heap[h]? = some (.cells #[v0, v1, v2, v3, v4, .int .i64 0, .int .i64 0, .int .i64 0, .int .i64 0, .int .u64 0, .string ⟨#[]⟩, .int .i64 0, .int .i64 0] 88 (0, 0)) := e4
  have e5 := heap_setCell_same _ h 5 _ _ v5 e4
  generalize w4.setCell ⟨h, 5, none⟩ v5 = w5 at *
  replace e5 : w5.heap[h]? = some (.cells #[v0, v1, v2, v3, v4, v5, .int .i64 0, .int .i64 0, .int .i64 0, .int .u64 0, .string ⟨#[]⟩, .int .i64 0, .int .i64 0] 88 (0, 0)) := e5
  have e6 := heap_setCell_same _ h 6 _ _ v6 e5
  generalize w5.setCell ⟨h, 6, none⟩ v6 = w6 at *
  replace e6 : w6.heap[h]? = some (.cells #[v0, v1, v2, v3, v4, v5, v6, .int .i64 0, .int .i64 0, .int .u64 0, .string ⟨#[]⟩, .int .i64 0, .int .i64 0] 88 (0, 0)) := e6
  have e7 := heap_setCell_same _ h 7 _ _ v7 e6
  generalize w6.setCell ⟨h, 7, none⟩ v7 = w7 at *
  replace e7 : w7.heap[h]? = some (.cells #[v0, v1, v2, v3, v4, v5, v6, v7, .int .i64 0, .int .u64 0, .string ⟨#[]⟩, .int .i64 0, .int .i64 0] 88 (0, 0)) := e7
  have e8 := heap_setCell_same _ h 8 _ _ v8 e7
  generalize w7.setCell ⟨h, 8, none⟩ v8 = w8 at *
  replace e8 : w8.heap[h]? = some (.cells #[v0, v1, v2, v3, v4, v5, v6, v7, v8, .int .u64 0, .string ⟨#[]⟩, .int .i64 0, .int .i64 0] 88 (0, 0)) := e8
  have e9 := heap_setCell_same _ h 9 _ _ v9 e8
  generalize w8.setCell ⟨h, 9, none⟩ v9 = w9 at *
  replace e9 : w9.heap[h]? = some (.cells #[v0, v1, v2, v3, v4, v5, v6, v7, v8, v9, .string ⟨#[]⟩, .int .i64 0, .int .i64 0] 88 (0, 0)) := e9
  have e10 := heap_setCell_same _ h 10 _ _ v10 e9
  generalize w9.setCell ⟨h, 10, none⟩ v10 = w10 at *
  replace e10 : w10.heap[h]? = some (.cells #[v0, v1, v2, v3, v4, v5, v6, v7, v8, v9, v10, .int .i64 0, .int .i64 0] 88 (0, 0)) := e10
  have e11 := heap_setCell_same _ h 11 _ _ v11 e10
  generalize w10.setCell ⟨h, 11, none⟩ v11 = w11 at *
  replace e11 : w11.heap[h]? = some (.cells #[v0, v1, v2, v3, v4, v5, v6, v7, v8, v9, v10, v11, .int .i64 0] 88 (0, 0)) := e11
  have e12 := heap_setCell_same _ h 12 _ _ v12 e11
  generalize w11.setCell ⟨h, 12, none⟩ v12 = w12 at *
  replace e12 : w12.heap[h]? = some (.cells #[v0, v1, v2, v3, v4, v5, v6, v7, v8, v9, v10, v11, v12] 88 (0, 0)) := e12
  exact e12
set_option maxRecDepth 100000 in
theorem hput_grown (w : World) (h : Nat) (v0 v1 v2 v3 v4 v5 v6 v7 v8 v9 v10 v11 v12 : Value) : w.grownBy (((((((((((((w.setCell ⟨h, 0, none⟩ v0).setCell ⟨h, 1, none⟩ v1).setCell ⟨h, 2, none⟩ v2).setCell ⟨h, 3, none⟩ v3).setCell ⟨h, 4, none⟩ v4).setCell ⟨h, 5, none⟩ v5).setCell ⟨h, 6, none⟩ v6).setCell ⟨h, 7, none⟩ v7).setCell ⟨h, 8, none⟩ v8).setCell ⟨h, 9, none⟩ v9).setCell ⟨h, 10, none⟩ v10).setCell ⟨h, 11, none⟩ v11).setCell ⟨h, 12, none⟩ v12) (some h) := by
  exact grown_trans (grown_trans (grown_trans (grown_trans (grown_trans (grown_trans (grown_trans (grown_trans (grown_trans (grown_trans (grown_trans (grown_trans (grown_setCell _ ⟨h, 0, none⟩ _) (grown_setCell _ ⟨h, 1, none⟩ _)) (grown_setCell _ ⟨h, 2, none⟩ _)) (grown_setCell _ ⟨h, 3, none⟩ _)) (grown_setCell _ ⟨h, 4, none⟩ _)) (grown_setCell _ ⟨h, 5, none⟩ _)) (grown_setCell _ ⟨h, 6, none⟩ _)) (grown_setCell _ ⟨h, 7, none⟩ _)) (grown_setCell _ ⟨h, 8, none⟩ _)) (grown_setCell _ ⟨h, 9, none⟩ _)) (grown_setCell _ ⟨h, 10, none⟩ _)) (grown_setCell _ ⟨h, 11, none⟩ _)) (grown_setCell _ ⟨h, 12, none⟩ _)
set_option maxRecDepth 100000 in
theorem header_size : (Tryd.prog.info? 88).map (·.size) = some 13 := by kernel_rfl
set_option maxRecDepth 100000 in
theorem res_header {fn : Func} {p : Tmp} (h : fn.results = #[.cell p 88]) (tmps : Array Value) (w : World) (g : Nat) (xs : Array Value) (hp : tmps.getD p undef = .pointer (some ⟨g, 0, none⟩)) (hn : xs.size = 13) (hg : w.heap[g]? = some (.cells xs 88 (0, 0))) :
    (results fn tmps).run Tryd.prog w = .ok (.agg xs) w := by
  exact results_cell_row h tmps w g _ _ _ _ hp hg Tryd.underlying88 rfl (by rw [hn]; exact header_size)
set_option maxRecDepth 100000 in
theorem z_cells {w : World} {h : Nat} (hr : w.heap[h]? = some (.cells zcells 88 (0, 0))) :
    w.cell? ⟨h, 0, none⟩ = some (.int .i64 0) ∧ w.cell? ⟨h, 1, none⟩ = some (.int .i64 0) ∧ w.cell? ⟨h, 2, none⟩ = some (.int .i64 0) ∧ w.cell? ⟨h, 3, none⟩ = some (.int .i64 0) ∧ w.cell? ⟨h, 4, none⟩ = some (.int .i64 0) ∧ w.cell? ⟨h, 5, none⟩ = some (.int .i64 0) ∧ w.cell? ⟨h, 6, none⟩ = some (.int .i64 0) ∧ w.cell? ⟨h, 7, none⟩ = some (.int .i64 0) ∧ w.cell? ⟨h, 8, none⟩ = some (.int .i64 0) ∧ w.cell? ⟨h, 9, none⟩ = some (.int .u64 0) ∧ w.cell? ⟨h, 10, none⟩ = some (.string ⟨#[]⟩) ∧ w.cell? ⟨h, 11, none⟩ = some (.int .i64 0) ∧ w.cell? ⟨h, 12, none⟩ = some (.int .i64 0) :=
  ⟨cell_of_row _ _ _ _ _ _ hr, cell_of_row _ _ _ _ _ _ hr, cell_of_row _ _ _ _ _ _ hr, cell_of_row _ _ _ _ _ _ hr, cell_of_row _ _ _ _ _ _ hr, cell_of_row _ _ _ _ _ _ hr, cell_of_row _ _ _ _ _ _ hr, cell_of_row _ _ _ _ _ _ hr, cell_of_row _ _ _ _ _ _ hr, cell_of_row _ _ _ _ _ _ hr, cell_of_row _ _ _ _ _ _ hr, cell_of_row _ _ _ _ _ _ hr, cell_of_row _ _ _ _ _ _ hr⟩
set_option maxRecDepth 100000 in
theorem r_cells {w : World} {h : Nat} {V : Nat → Nat} (hr : w.heap[h]? = some (.cells (hdc V 10 0) 88 (0, 0))) :
    w.cell? ⟨h, 0, none⟩ = some (.int .i64 (V 0 : Int)) ∧ w.cell? ⟨h, 1, none⟩ = some (.int .i64 (V 1 : Int)) ∧ w.cell? ⟨h, 2, none⟩ = some (.int .i64 (V 2 : Int)) ∧ w.cell? ⟨h, 3, none⟩ = some (.int .i64 (V 3 : Int)) ∧ w.cell? ⟨h, 4, none⟩ = some (.int .i64 0) ∧ w.cell? ⟨h, 5, none⟩ = some (.int .i64 (V 5 : Int)) ∧ w.cell? ⟨h, 6, none⟩ = some (.int .i64 (V 6 : Int)) ∧ w.cell? ⟨h, 7, none⟩ = some (.int .i64 (V 7 : Int)) ∧ w.cell? ⟨h, 8, none⟩ = some (.int .i64 (V 8 : Int)) ∧ w.cell? ⟨h, 9, none⟩ = some (.int .u64 0) ∧ w.cell? ⟨h, 10, none⟩ = some (.string ⟨#[]⟩) ∧ w.cell? ⟨h, 11, none⟩ = some (.int .i64 (V 4 : Int)) ∧ w.cell? ⟨h, 12, none⟩ = some (.int .i64 (V 9 : Int)) :=
  ⟨cell_of_row _ _ _ _ _ _ hr, cell_of_row _ _ _ _ _ _ hr, cell_of_row _ _ _ _ _ _ hr, cell_of_row _ _ _ _ _ _ hr, cell_of_row _ _ _ _ _ _ hr, cell_of_row _ _ _ _ _ _ hr, cell_of_row _ _ _ _ _ _ hr, cell_of_row _ _ _ _ _ _ hr, cell_of_row _ _ _ _ _ _ hr, cell_of_row _ _ _ _ _ _ hr, cell_of_row _ _ _ _ _ _ hr, cell_of_row _ _ _ _ _ _ hr, cell_of_row _ _ _ _ _ _ hr⟩
/-- A header's value. -/
def hval (V : Nat → Nat) (n : Int) : Value := .agg (hdc V 10 n)
end Go.Proofs.YtpabfjhjehjebaaDoor

/- packet: the header of a packet is read. -/
namespace Go.Proofs.YtpabfjhjehjebaaDoor
open Go.RowKit Bs
set_option maxRecDepth 100000 in
set_option maxHeartbeats 3200000 in
theorem readHeader_any (l : List Nat) (hl : By l) (h7 : 7 ≤ l.length ∧ l.length ≤ 1000) (q : Nat → Prop) (p : Option Addr) (c : Nat) (w : World) (hR : Rd w q (.slice p l.length c) (l.map nv)) :
    Calls Tryd.prog 57 #[.slice p l.length c] w fun e w' => e = .returned (hval (fv l) (8 * 2 ^ fv l 4)) ∧ w.grownBy w' none := by
  obtain ⟨h71, h72⟩ := h7
  obtain ⟨k1, k2, k3, k4, k5⟩ := three_new w (.cells #[.int .i64 0, .int .i64 0, .int .i64 0, .int .i64 0, .int .i64 0, .int .i64 0, .int .i64 0, .int .i64 0, .int .i64 0, .int .u64 0, .string ⟨#[]⟩, .int .i64 0, .int .i64 0] 88) (.cells #[.int .i64 0, .int .i64 0, .int .i64 0, .int .i64 0, .int .i64 0, .int .i64 0, .int .i64 0, .int .i64 0, .int .i64 0, .int .u64 0, .string ⟨#[]⟩, .int .i64 0, .int .i64 0] 88) (.cells #[.slice p l.length c, .int .i64 (8 * (l.length : Int))] 74)
  have HA := Lib.hid (And.intro k1 (And.intro k2 (And.intro k3 (And.intro k4 k5))))
  have HR := Lib.hid (hR.bound.keep k4)
  clear k1 k2 k3 k4 k5 hR
  go_enter Tryd.func57, Tryd.ntmps57
  go_wp2_with fail
  generalize ((w.alloc (.cells #[.int .i64 0, .int .i64 0, .int .i64 0, .int .i64 0, .int .i64 0, .int .i64 0, .int .i64 0, .int .i64 0, .int .i64 0, .int .u64 0, .string ⟨#[]⟩, .int .i64 0, .int .i64 0] 88)).alloc (.cells #[.int .i64 0, .int .i64 0, .int .i64 0, .int .i64 0, .int .i64 0, .int .i64 0, .int .i64 0, .int .i64 0, .int .i64 0, .int .u64 0, .string ⟨#[]⟩, .int .i64 0, .int .i64 0] 88)).alloc (.cells #[.slice p l.length c, .int .i64 (8 * (l.length : Int))] 74) = wa at *
  refine (fields_any (w.heap.size + 1) _).mono ?_
  rintro e w5 ⟨g, rfl, hfb, hge, hg5⟩
  have HG : Hid (w.heap.size + 2 < g) := Lib.hid (by rw [HA.out.2.2.2.2] at hge; omega)
  have H0 : Hid (RD w l p c (fv l) g 0 w5) := Lib.hid ⟨hfb, kept_row HA.out.2.1 hg5 (by simp), kept_row HA.out.2.2.1 hg5 (by simp), kept_row HA.out.1 hg5 (by simp), HR.out.keep hg5, grown_trans HA.out.2.2.2.1 hg5⟩
  clear hfb hge hg5 HA HR
  go_wp2_with fail
  go_loopw [5, 17] (fun at_ i wr => ∃ k : Nat, k ≤ 10 ∧ i = .int .i64 (k : Int) ∧ at_ = .int .i64 ((offs.getD k 0 : Nat) : Int) ∧ Hid (RD w l p c (fv l) g k wr)) (fun _ i _ => (10 - (intOf i).toNat))
  case atStart => exact ⟨0, Nat.zero_le _, rfl, rfl, H0⟩
  case round =>
    obtain ⟨k, hk, rfl, rfl, hR⟩ := hrel
    clear H0
    by_cases hk2 : k < 10
    · obtain ⟨o, hc0, hc1, hc2, ho, hof, hwd, hle⟩ := read_at (fv l) (w.heap.size + 1) k hk2
      have hfv : fv l k = num (bt l) (offs.getD k 0) (wids.getD k 0) := rfl
      have d0 := (cell_of_row _ _ _ _ _ _ hR.out.fb).trans hc0
      have d1 := (cell_of_row _ _ _ _ _ _ hR.out.fb).trans hc1
      have hxlt : fv l k < 2 ^ (wids.getD k 0) := num_lt _ _ _
      obtain ⟨a2, ha2⟩ : ∃ a2, a2 = offs.getD (k + 1) 0 := ⟨_, rfl⟩
      rw [← ha2] at hof
      generalize offs.getD k 0 = a at *
      generalize wids.getD k 0 = wd at *
      have hok := takeV_ok (l := l) (n := ((8 * l.length : Nat) : Int)) (a := ((a : Nat) : Int)) (k := ((wd : Nat) : Int)) (vs_whole (by omega)) (by unfold vw; simp; omega) (by omega) (by omega)
      rw [Int.toNat_natCast, Int.toNat_natCast, ← hfv, Int.natCast_mul] at hok
      change takeV l (8 * (l.length : Int)) _ _ = _ at hok
      have hx10 : fv l k < 1024 := Nat.lt_of_lt_of_le hxlt (Nat.pow_le_pow_right (n := 2) (by decide) hwd)
      have HO := Lib.hid (And.intro ho hof)
      have HC2 := Lib.hid hc2
      have HA2 := Lib.hid ha2
      have HX := Lib.hid hok
      have HR := hR
      clear hc0 hc1 hc2 hR ho hof hok hxlt hfv ha2
      go_upto_region 7 with fail
      have HRf := Lib.hid (HR.out.keep (World.grownBy_alloc wr (.cells #[.pointer (some ⟨w.heap.size + 1, o, none⟩), .int .i64 (wd : Int)] 111) none))
      have RF := Lib.hid (heap_alloc_new wr (.cells #[.pointer (some ⟨w.heap.size + 1, o, none⟩), .int .i64 (wd : Int)] 111))
      clear d0 d1 HR
      generalize wr.alloc (.cells #[.pointer (some ⟨w.heap.size + 1, o, none⟩), .int .i64 (wd : Int)] 111) = wf at *
      have x0 : wf.cell? ⟨wr.heap.size, 0, none⟩ = some (.pointer (some ⟨w.heap.size + 1, o, none⟩)) := cell_of_row _ _ _ _ _ _ RF.out
      have x1 : wf.cell? ⟨wr.heap.size, 1, none⟩ = some (.int .i64 (wd : Int)) := cell_of_row _ _ _ _ _ _ RF.out
      have s0 : wf.cell? ⟨w.heap.size + 1 + 1, 0, none⟩ = some (.slice p l.length c) := cell_of_row _ _ _ _ _ _ HRf.out.sb
      have s1 : wf.cell? ⟨w.heap.size + 1 + 1, 1, none⟩ = some (.int .i64 (8 * (l.length : Int))) := cell_of_row _ _ _ _ _ _ HRf.out.sb
      go_wp2_with fail
      refine (takep_any l (8 * (l.length : Int)) (a : Int) (wd : Int) _ p c hl (by unfold I64; omega) _ HRf.out.rd).mono ?_
      rintro e w7 ⟨rfl, hg⟩
      rw [HX.out]
      have H7 := Lib.hid (HRf.out.keep hg)
      have hrf := kept_row RF.out hg (by simp)
      have x0 : w7.cell? ⟨wr.heap.size, 0, none⟩ = some (.pointer (some ⟨w.heap.size + 1, o, none⟩)) := cell_of_row _ _ _ _ _ _ hrf
      have x1 : w7.cell? ⟨wr.heap.size, 1, none⟩ = some (.int .i64 (wd : Int)) := cell_of_row _ _ _ _ _ _ hrf
      have t0 := (cell_of_row _ _ _ _ _ _ H7.out.hb).trans HC2.out
      have t1 := frozen_of_row _ _ o _ _ H7.out.hb
      have hne : w.heap.size + 1 ≠ wr.heap.size := fun e => by
        have h1 := RF.out
        rw [← e, HRf.out.hb] at h1
        cases h1
      have H8 := Lib.hid (H7.out.turn HG.out HO.out.1)
      clear hg hrf s0 s1 RF HRf
      go_wp2_with fail
      go_roundw
      case rel => exact ⟨k + 1, by omega, by go_num, by rw [← HA2.out, HO.out.2]; go_num, H8⟩
      case measure => simp [intOf]; omega
    · obtain rfl : k = 10 := by omega
      obtain ⟨c0, c1, c2, c3, c4, c5, c6, c7, c8, c9, c10, c11, c12⟩ := r_cells hR.out.hb
      obtain ⟨z0, z1, z2, z3, z4, z5, z6, z7, z8, z9, z10, z11, z12⟩ := z_cells hR.out.rb
      obtain ⟨f0, f1, f2, f3, f4, f5, f6, f7, f8, f9, f10, f11, f12⟩ := h_facts hR.out.rb
      have fh := frozen_of_row _ _ 4 _ _ hR.out.hb
      have hx4 : fv l 4 < 4 := num_lt _ _ 2
      go_wp2_with fail
      have hw : wrap64 (8 * 2 ^ fv l 4) = 8 * 2 ^ fv l 4 := by
        rcases (show fv l 4 = 0 ∨ fv l 4 = 1 ∨ fv l 4 = 2 ∨ fv l 4 = 3 by omega) with h | h | h | h <;> rw [h] <;> decide +kernel
      rw [hw]
      have gh := grown_setCell wr ⟨w.heap.size + 1, 4, none⟩ (.int .i64 (8 * 2 ^ fv l 4))
      have hrb := kept_row hR.out.rb gh (fun e => by have : w.heap.size = w.heap.size + 1 := Option.some.inj e; omega)
      have gr1 := grown_new hR.out.gr gh (by show w.heap.size ≤ w.heap.size + 1; omega)
      refine bodyPost_ret (res_header rfl _ _ w.heap.size _ rfl rfl (hput_row _ _ _ _ _ _ _ _ _ _ _ _ _ hrb)) rfl ?_
      exact ⟨rfl, grown_new gr1 (hput_grown _ w.heap.size _ _ _ _ _ _ _ _ _ _ _ _ _) (Nat.le_refl _)⟩
end Go.Proofs.YtpabfjhjehjebaaDoor

/- packet: Valid. -/
namespace Go.Proofs.YtpabfjhjehjebaaDoor
open Go.RowKit Bs
def vrows (P : Pk) : List (Int × Int × Int) := [(P.mode, 1, 3), (P.sub, 0, 7), (P.set, 0, 31), (P.ttl, 0, 63), (P.ent, 0, 1023), (P.ing, 0, 256), (P.pro, 0, 7), ((P.pay.size : Int), 0, 64)]
def vcells (P : Pk) : Array Value := #[.int .i64 P.mode, .int .i64 1, .int .i64 3, .int .i64 P.sub, .int .i64 0, .int .i64 7, .int .i64 P.set, .int .i64 0, .int .i64 31, .int .i64 P.ttl, .int .i64 0, .int .i64 63,
  .int .i64 P.ent, .int .i64 0, .int .i64 1023, .int .i64 P.ing, .int .i64 0, .int .i64 256, .int .i64 P.pro, .int .i64 0, .int .i64 7, .int .i64 (P.pay.size : Int), .int .i64 0, .int .i64 64]
set_option maxRecDepth 100000 in
theorem vrow_at (P : Pk) (k : Nat) (hk : k < 8) : ∃ x lo hi : Int, (vcells P)[k * 3]? = some (.int .i64 x) ∧ (vcells P)[k * 3 + 1]? = some (.int .i64 lo) ∧ (vcells P)[k * 3 + 2]? = some (.int .i64 hi) ∧ (vrows P)[k]? = some (x, lo, hi) := by
  rcases (show k = 0 ∨ k = 1 ∨ k = 2 ∨ k = 3 ∨ k = 4 ∨ k = 5 ∨ k = 6 ∨ k = 7 by omega) with rfl | rfl | rfl | rfl | rfl | rfl | rfl | rfl <;> exact ⟨_, _, _, rfl, rfl, rfl, rfl⟩
/-- The first k rows are kept. -/
def Kept (P : Pk) (k : Nat) : Prop := ∀ j x lo hi, j < k → (vrows P)[j]? = some (x, lo, hi) → lo ≤ x ∧ x ≤ hi
set_option maxRecDepth 100000 in
theorem vpk_kept {P : Pk} (h : Kept P 8) : vpk P = vb P.bits P.len := by
  have h0 := h 0 _ _ _ (by decide) rfl
  have h1 := h 1 _ _ _ (by decide) rfl
  have h2 := h 2 _ _ _ (by decide) rfl
  have h3 := h 3 _ _ _ (by decide) rfl
  have h4 := h 4 _ _ _ (by decide) rfl
  have h5 := h 5 _ _ _ (by decide) rfl
  have h6 := h 6 _ _ _ (by decide) rfl
  have h7 := h 7 _ _ _ (by decide) rfl
  unfold vpk
  by_cases hb : vb P.bits P.len = true
  · rw [hb]; exact decide_eq_true ⟨h0, h1, h2, h3, h4, h5, h6, by omega, rfl⟩
  · rw [Bool.not_eq_true] at hb
    rw [hb]; exact decide_eq_false fun h => by cases h.2.2.2.2.2.2.2.2
set_option maxRecDepth 100000 in
theorem vpk_row {P : Pk} (h : vpk P = true) {k : Nat} {x lo hi : Int} (hk : k < 8) (hr : (vrows P)[k]? = some (x, lo, hi)) : lo ≤ x ∧ x ≤ hi := by
  obtain ⟨h0, h1, h2, h3, h4, h5, h6, h7, _⟩ := vpk_parts h
  rcases (show k = 0 ∨ k = 1 ∨ k = 2 ∨ k = 3 ∨ k = 4 ∨ k = 5 ∨ k = 6 ∨ k = 7 by omega) with rfl | rfl | rfl | rfl | rfl | rfl | rfl | rfl <;> cases hr
  · exact h0
  · exact h1
  · exact h2
  · exact h3
  · exact h4
  · exact h5
  · exact h6
  · exact ⟨by omega, by omega⟩
set_option maxRecDepth 100000 in
theorem vpk_not {P : Pk} {k : Nat} {x lo hi : Int} (hk : k < 8) (hr : (vrows P)[k]? = some (x, lo, hi)) (hn : ¬ (lo ≤ x ∧ x ≤ hi)) : vpk P = false := by
  cases h : vpk P with
  | false => rfl
  | true => exact absurd (vpk_row h hk hr) hn
set_option maxRecDepth 100000 in
set_option maxHeartbeats 3200000 in
theorem pvalid_any (P : Pk) (hP : P.Wf) (w : World) :
    Calls Tryd.prog 71 #[P.val] w fun e w' => e = .returned (.bool (vpk P)) ∧ w.grownBy w' none := by
  unfold Pk.val
  go_enter Tryd.func71, Tryd.ntmps71
  go_wp2_with fail
  obtain ⟨k1, k2, k3, k4⟩ := two_boxes w (pcells P) (vcells P) 31 115
  have HA := Lib.hid (And.intro k1 (And.intro k2 k3))
  clear k1 k2 k3 k4
  unfold pcells vcells at HA
  generalize ((w.alloc (.cells #[.int .i64 P.mode, .int .i64 P.sub, .int .i64 P.set, .int .i64 P.len, .int .i64 P.ttl, .int .i64 P.ent, .int .i64 P.ing, .int .i64 P.pro, .int .u64 (P.bits : Int), .string P.pay] 31)).alloc _) = wa at *
  change Hid (wa.heap[w.heap.size]? = some (.cells (pcells P) 31 (0, 0)) ∧ wa.heap[w.heap.size + 1]? = some (.cells (vcells P) 115 (0, 0)) ∧ w.grownBy wa none) at HA
  have hK0 : Hid (Kept P 0) := Lib.hid fun j x lo hi hj => absurd hj (Nat.not_lt_zero j)
  go_loopw [32] (fun i wr => ∃ k : Nat, k ≤ 8 ∧ i = .int .i64 (k : Int) ∧ Hid (Kept P k) ∧ Hid (wa.grownBy wr none)) (fun i _ => (8 - (intOf i).toNat))
  case atStart => exact ⟨0, Nat.zero_le _, rfl, hK0, Lib.hid (grown_refl _ _)⟩
  case round =>
    obtain ⟨k, hk, rfl, hK, hG⟩ := hrel
    clear hK0
    have GE := Lib.hid (grown_trans HA.out.2.2 hG.out)
    by_cases hk2 : k < 8
    · obtain ⟨x, lo, hi, c0, c1, c2, hr⟩ := vrow_at P k hk2
      have hrow := kept_row HA.out.2.1 hG.out (by simp)
      have d0 := (cell_of_row _ _ _ _ _ _ hrow).trans c0
      have d1 := (cell_of_row _ _ _ _ _ _ hrow).trans c1
      have d2 := (cell_of_row _ _ _ _ _ _ hrow).trans c2
      have HR := Lib.hid hr
      clear c0 c1 c2 hr hrow
      by_cases h1 : x < lo
      · have hn := Lib.hid (vpk_not hk2 HR.out (by omega))
        go_wp2_with fail
        go_ret
        exact ⟨by rw [hn.out]; rfl, grown_trans GE.out (World.grownBy_alloc _ _ none)⟩
      · by_cases h2 : hi < x
        · have hn := Lib.hid (vpk_not hk2 HR.out (by omega))
          go_wp2_with fail
          go_ret
          exact ⟨by rw [hn.out]; rfl, grown_trans GE.out (World.grownBy_alloc _ _ none)⟩
        · go_wp2_with fail
          go_roundw
          case rel =>
            refine ⟨k + 1, by omega, by go_num, Lib.hid fun j y lo' hi' hj hr => ?_, Lib.hid (grown_trans hG.out (World.grownBy_alloc _ _ none))⟩
            by_cases hjk : j < k
            · exact hK.out j y lo' hi' hjk hr
            · obtain rfl : j = k := by omega
              rw [HR.out] at hr
              cases hr
              exact ⟨by omega, by omega⟩
          case measure => simp [intOf]; omega
    · obtain rfl : k = 8 := by omega
      obtain ⟨a0, a1, a2, a3, a4, a5, a6, a7, a8, a9⟩ := p_facts (kept_row HA.out.1 hG.out (by simp))
      have hv := Lib.hid (vpk_kept hK.out)
      go_wp2_with fail
      refine (bvalidp_any P.bits P.len hP.bits _).mono ?_
      rintro e w9 ⟨rfl, rfl⟩
      go_wp2_with fail
      go_ret
      exact ⟨by rw [hv.out]; rfl, GE.out⟩
end Go.Proofs.YtpabfjhjehjebaaDoor

/- packet: sizes; the mistakes of a header. -/
namespace Go.Proofs.YtpabfjhjehjebaaDoor
open Go.RowKit Bs
set_option maxRecDepth 100000 in
set_option maxHeartbeats 3200000 in
theorem wholeBytes_any (n : Nat) (hn : n ≤ 100000) (w : World) :
    Calls Tryd.prog 56 #[.int .i64 (n : Int)] w fun e w' => e = .returned (.int .i64 (((n + 7) / 8 : Nat) : Int)) ∧ w = w' := by
  go_enter Tryd.func56, Tryd.ntmps56
  go_wp2
  all_goals (go_ret; exact ⟨by go_num, rfl⟩)
set_option maxRecDepth 100000 in
theorem bytesForP_any (n m : Nat) (hn : n ≤ 10000) (hm : m ≤ 1000) (w : World) :
    Calls Tryd.prog 59 #[.int .i64 (n : Int), .int .i64 (m : Int)] w fun e w' => e = .returned (.int .i64 (((49 + n + 8 * m + 16 + 7) / 8 : Nat) : Int)) ∧ w = w' := by
  go_enter Tryd.func59, Tryd.ntmps59
  go_wp2_with (go_at_call 56; rw [show (49 + (n : Int) + 8 * (m : Int) + 16) = ((49 + n + 8 * m + 16 : Nat) : Int) by omega]; refine (wholeBytes_any (49 + n + 8 * m + 16) (by omega) _).mono ?_; rintro e w' ⟨rfl, rfl⟩)
  all_goals (go_ret; exact ⟨rfl, rfl⟩)
/-- The first mistake of a header. -/
def misV (V : Nat → Nat) : Int := if V 0 ≠ 2 then 22 else if V 1 = 0 then 1 else if 256 < V 7 ∨ 64 < V 9 then 2 else 0
set_option maxRecDepth 100000 in
set_option maxHeartbeats 3200000 in
theorem mistake_any (V : Nat → Nat) (n : Int) (h : Nat) (w : World) (hr : w.heap[h]? = some (.cells (hdc V 10 n) 88 (0, 0))) :
    Calls Tryd.prog 58 #[.pointer (some ⟨h, 0, none⟩)] w fun e w' => e = .returned (.int .i64 (misV V)) ∧ w = w' := by
  have c0 : w.cell? ⟨h, 0, none⟩ = some (.int .i64 (V 0 : Int)) := cell_of_row _ _ _ _ _ _ hr
  have c1 : w.cell? ⟨h, 1, none⟩ = some (.int .i64 (V 1 : Int)) := cell_of_row _ _ _ _ _ _ hr
  have c7 : w.cell? ⟨h, 7, none⟩ = some (.int .i64 (V 7 : Int)) := cell_of_row _ _ _ _ _ _ hr
  have c9 : w.cell? ⟨h, 12, none⟩ = some (.int .i64 (V 9 : Int)) := cell_of_row _ _ _ _ _ _ hr
  clear hr
  by_cases h0 : V 0 = 2
  · by_cases h1 : V 1 = 0
    · have hm := Lib.hid (show misV V = 1 by unfold misV; rw [if_neg (by simp [h0]), if_pos h1])
      go_enter Tryd.func58, Tryd.ntmps58
      go_wp2
      all_goals (go_ret; exact ⟨by rw [hm.out]; rfl, rfl⟩)
    · by_cases h2 : 256 < V 7
      · have hm := Lib.hid (show misV V = 2 by unfold misV; rw [if_neg (by simp [h0]), if_neg h1, if_pos (.inl h2)])
        go_enter Tryd.func58, Tryd.ntmps58
        go_wp2
        all_goals (go_ret; exact ⟨by rw [hm.out]; rfl, rfl⟩)
      · by_cases h3 : 64 < V 9
        · have hm := Lib.hid (show misV V = 2 by unfold misV; rw [if_neg (by simp [h0]), if_neg h1, if_pos (.inr h3)])
          go_enter Tryd.func58, Tryd.ntmps58
          go_wp2
          all_goals (go_ret; exact ⟨by rw [hm.out]; rfl, rfl⟩)
        · have hm := Lib.hid (show misV V = 0 by unfold misV; rw [if_neg (by simp [h0]), if_neg h1, if_neg (by omega)])
          go_enter Tryd.func58, Tryd.ntmps58
          go_wp2
          all_goals (go_ret; exact ⟨by rw [hm.out]; rfl, rfl⟩)
  · have hm := Lib.hid (show misV V = 22 by unfold misV; rw [if_pos h0])
    go_enter Tryd.func58, Tryd.ntmps58
    go_wp2
    all_goals (go_ret; exact ⟨by rw [hm.out]; rfl, rfl⟩)
end Go.Proofs.YtpabfjhjehjebaaDoor

/- packet: a packet's block. -/
namespace Go.Proofs.YtpabfjhjehjebaaDoor
open Go.RowKit Bs
def zpk : Array Value := #[.int .i64 0, .int .i64 0, .int .i64 0, .int .i64 0, .int .i64 0, .int .i64 0, .int .i64 0, .int .i64 0, .int .u64 0, .string ⟨#[]⟩]
set_option maxRecDepth 100000 in
theorem pput_row {w : World} {h : Nat} (v0 v1 v2 v3 v4 v5 v6 v7 v8 v9 : Value) (hr : w.heap[h]? = some (.cells zpk 31 (0, 0))) :
    ((((((((((w.setCell ⟨h, 0, none⟩ v0).setCell ⟨h, 1, none⟩ v1).setCell ⟨h, 2, none⟩ v2).setCell ⟨h, 3, none⟩ v3).setCell ⟨h, 4, none⟩ v4).setCell ⟨h, 5, none⟩ v5).setCell ⟨h, 6, none⟩ v6).setCell ⟨h, 7, none⟩ v7).setCell ⟨h, 8, none⟩ v8).setCell ⟨h, 9, none⟩ v9).heap[h]? = some (.cells #[v0, v1, v2, v3, v4, v5, v6, v7, v8, v9] 31 (0, 0)) := by
  have e0 := heap_setCell_same _ h 0 _ _ v0 hr
  generalize w.setCell ⟨h, 0, none⟩ v0 = w0 at *
  replace e0 : w0.heap[h]? = some (.cells #[v0, .int .i64 0, .int .i64 0, .int .i64 0, .int .i64 0, .int .i64 0, .int .i64 0, .int .i64 0, .int .u64 0, .string ⟨#[]⟩] 31 (0, 0)) := e0
  have e1 := heap_setCell_same _ h 1 _ _ v1 e0
  generalize w0.setCell ⟨h, 1, none⟩ v1 = w1 at *
  replace e1 : w1.heap[h]? = some (.cells #[v0, v1, .int .i64 0, .int .i64 0, .int .i64 0, .int .i64 0, .int .i64 0, .int .i64 0, .int .u64 0, .string ⟨#[]⟩] 31 (0, 0)) := e1
  have e2 := heap_setCell_same _ h 2 _ _ v2 e1
  generalize w1.setCell ⟨h, 2, none⟩ v2 = w2 at *
  replace e2 : w2.heap[h]? = some (.cells #[v0, v1, v2, .int .i64 0, .int .i64 0, .int .i64 0, .int .i64 0, .int .i64 0, .int .u64 0, .string ⟨#[]⟩] 31 (0, 0)) := e2
  have e3 := heap_setCell_same _ h 3 _ _ v3 e2
  generalize w2.setCell ⟨h, 3, none⟩ v3 = w3 at *
  replace e3 : w3.heap[h]? = some (.cells #[v0, v1, v2, v3, .int .i64 0, .int .i64 0, .int .i64 0, .int .i64 0, .int .u64 0, .string ⟨#[]⟩] 31 (0, 0)) := e3
  have e4 := heap_setCell_same _ h 4 _ _ v4 e3
  generalize w3.setCell ⟨h, 4, none⟩ v4 = w4 at *
  replace e4 : w4.heap[h]? = some (.cells #[v0, v1, v2, v3, v4, .int .i64 0, .int .i64 0, .int .i64 0, .int .u64 0, .string ⟨#[]⟩] 31 (0, 0)) := e4
  have e5 := heap_setCell_same _ h 5 _ _ v5 e4
  generalize w4.setCell ⟨h, 5, none⟩ v5 = w5 at *
  replace e5 : w5.heap[h]? = some (.cells #[v0, v1, v2, v3, v4, v5, .int .i64 0, .int .i64 0, .int .u64 0, .string ⟨#[]⟩] 31 (0, 0)) := e5
  have e6 := heap_setCell_same _ h 6 _ _ v6 e5
  generalize w5.setCell ⟨h, 6, none⟩ v6 = w6 at *
  replace e6 : w6.heap[h]? = some (.cells #[v0, v1, v2, v3, v4, v5, v6, .int .i64 0, .int .u64 0, .string ⟨#[]⟩] 31 (0, 0)) := e6
  have e7 := heap_setCell_same _ h 7 _ _ v7 e6
  generalize w6.setCell ⟨h, 7, none⟩ v7 = w7 at *
  replace e7 : w7.heap[h]? = some (.cells #[v0, v1, v2, v3, v4, v5, v6, v7, .int .u64 0, .string ⟨#[]⟩] 31 (0, 0)) := e7
  have e8 := heap_setCell_same _ h 8 _ _ v8 e7
  generalize w7.setCell ⟨h, 8, none⟩ v8 = w8 at *
  replace e8 : w8.heap[h]? = some (.cells #[v0, v1, v2, v3, v4, v5, v6, v7, v8, .string ⟨#[]⟩] 31 (0, 0)) := e8
  have e9 := heap_setCell_same _ h 9 _ _ v9 e8
  generalize w8.setCell ⟨h, 9, none⟩ v9 = w9 at *
  replace e9 : w9.heap[h]? = some (.cells #[v0, v1, v2, v3, v4, v5, v6, v7, v8, v9] 31 (0, 0)) := e9
  exact e9
set_option maxRecDepth 100000 in
theorem pput_grown (w : World) (h : Nat) (v0 v1 v2 v3 v4 v5 v6 v7 v8 v9 : Value) : w.grownBy ((((((((((w.setCell ⟨h, 0, none⟩ v0).setCell ⟨h, 1, none⟩ v1).setCell ⟨h, 2, none⟩ v2).setCell ⟨h, 3, none⟩ v3).setCell ⟨h, 4, none⟩ v4).setCell ⟨h, 5, none⟩ v5).setCell ⟨h, 6, none⟩ v6).setCell ⟨h, 7, none⟩ v7).setCell ⟨h, 8, none⟩ v8).setCell ⟨h, 9, none⟩ v9) (some h) := by
  exact grown_trans (grown_trans (grown_trans (grown_trans (grown_trans (grown_trans (grown_trans (grown_trans (grown_trans (grown_setCell _ ⟨h, 0, none⟩ _) (grown_setCell _ ⟨h, 1, none⟩ _)) (grown_setCell _ ⟨h, 2, none⟩ _)) (grown_setCell _ ⟨h, 3, none⟩ _)) (grown_setCell _ ⟨h, 4, none⟩ _)) (grown_setCell _ ⟨h, 5, none⟩ _)) (grown_setCell _ ⟨h, 6, none⟩ _)) (grown_setCell _ ⟨h, 7, none⟩ _)) (grown_setCell _ ⟨h, 8, none⟩ _)) (grown_setCell _ ⟨h, 9, none⟩ _)
set_option maxRecDepth 100000 in
theorem zp_cells {w : World} {h : Nat} (hr : w.heap[h]? = some (.cells zpk 31 (0, 0))) :
    (w.cell? ⟨h, 0, none⟩ = some (.int .i64 0) ∧ w.cell? ⟨h, 1, none⟩ = some (.int .i64 0) ∧ w.cell? ⟨h, 2, none⟩ = some (.int .i64 0) ∧ w.cell? ⟨h, 3, none⟩ = some (.int .i64 0) ∧ w.cell? ⟨h, 4, none⟩ = some (.int .i64 0) ∧ w.cell? ⟨h, 5, none⟩ = some (.int .i64 0) ∧ w.cell? ⟨h, 6, none⟩ = some (.int .i64 0) ∧ w.cell? ⟨h, 7, none⟩ = some (.int .i64 0) ∧ w.cell? ⟨h, 8, none⟩ = some (.int .u64 0) ∧ w.cell? ⟨h, 9, none⟩ = some (.string ⟨#[]⟩)) ∧ w.frozen? ⟨h, 0, none⟩ = false ∧ w.frozen? ⟨h, 1, none⟩ = false ∧ w.frozen? ⟨h, 2, none⟩ = false ∧ w.frozen? ⟨h, 3, none⟩ = false ∧ w.frozen? ⟨h, 4, none⟩ = false ∧ w.frozen? ⟨h, 5, none⟩ = false ∧ w.frozen? ⟨h, 6, none⟩ = false ∧ w.frozen? ⟨h, 7, none⟩ = false ∧ w.frozen? ⟨h, 8, none⟩ = false ∧ w.frozen? ⟨h, 9, none⟩ = false :=
  ⟨⟨cell_of_row _ _ _ _ _ _ hr, cell_of_row _ _ _ _ _ _ hr, cell_of_row _ _ _ _ _ _ hr, cell_of_row _ _ _ _ _ _ hr, cell_of_row _ _ _ _ _ _ hr, cell_of_row _ _ _ _ _ _ hr, cell_of_row _ _ _ _ _ _ hr, cell_of_row _ _ _ _ _ _ hr, cell_of_row _ _ _ _ _ _ hr, cell_of_row _ _ _ _ _ _ hr⟩, frozen_of_row _ _ _ _ _ hr, frozen_of_row _ _ _ _ _ hr, frozen_of_row _ _ _ _ _ hr, frozen_of_row _ _ _ _ _ hr, frozen_of_row _ _ _ _ _ hr, frozen_of_row _ _ _ _ _ hr, frozen_of_row _ _ _ _ _ hr, frozen_of_row _ _ _ _ _ hr, frozen_of_row _ _ _ _ _ hr, frozen_of_row _ _ _ _ _ hr⟩
set_option maxRecDepth 100000 in
theorem packet_size : (Tryd.prog.info? 31).map (·.size) = some 10 := by kernel_rfl
/-- The packet of a header, with these bits and this payload. -/
def rcells (V : Nat → Nat) (n : Int) (b : Nat) (s : ByteArray) : Array Value := #[.int .i64 (V 1 : Int), .int .i64 (V 2 : Int), .int .i64 (V 3 : Int), .int .i64 n, .int .i64 (V 5 : Int), .int .i64 (V 6 : Int), .int .i64 (V 7 : Int), .int .i64 (V 8 : Int), .int .u64 (b : Int), .string s]
set_option maxRecDepth 100000 in
theorem rc_cells {w : World} {h : Nat} {V : Nat → Nat} {n : Int} {b : Nat} {s : ByteArray} (hr : w.heap[h]? = some (.cells (rcells V n b s) 31 (0, 0))) :
    w.cell? ⟨h, 0, none⟩ = some (.int .i64 (V 1 : Int)) ∧ w.cell? ⟨h, 1, none⟩ = some (.int .i64 (V 2 : Int)) ∧ w.cell? ⟨h, 2, none⟩ = some (.int .i64 (V 3 : Int)) ∧ w.cell? ⟨h, 3, none⟩ = some (.int .i64 n) ∧ w.cell? ⟨h, 4, none⟩ = some (.int .i64 (V 5 : Int)) ∧ w.cell? ⟨h, 5, none⟩ = some (.int .i64 (V 6 : Int)) ∧ w.cell? ⟨h, 6, none⟩ = some (.int .i64 (V 7 : Int)) ∧ w.cell? ⟨h, 7, none⟩ = some (.int .i64 (V 8 : Int)) ∧ w.cell? ⟨h, 8, none⟩ = some (.int .u64 (b : Int)) ∧ w.cell? ⟨h, 9, none⟩ = some (.string s) :=
  ⟨cell_of_row _ _ _ _ _ _ hr, cell_of_row _ _ _ _ _ _ hr, cell_of_row _ _ _ _ _ _ hr, cell_of_row _ _ _ _ _ _ hr, cell_of_row _ _ _ _ _ _ hr, cell_of_row _ _ _ _ _ _ hr, cell_of_row _ _ _ _ _ _ hr, cell_of_row _ _ _ _ _ _ hr, cell_of_row _ _ _ _ _ _ hr, cell_of_row _ _ _ _ _ _ hr⟩
set_option maxRecDepth 100000 in
theorem four_new (w : World) (A B C D : Obj) : ((((w.alloc A).alloc B).alloc C).alloc D).heap[w.heap.size]? = some A ∧ ((((w.alloc A).alloc B).alloc C).alloc D).heap[w.heap.size + 1]? = some B ∧ ((((w.alloc A).alloc B).alloc C).alloc D).heap[w.heap.size + 2]? = some C ∧ ((((w.alloc A).alloc B).alloc C).alloc D).heap[w.heap.size + 3]? = some D ∧
    w.grownBy ((((w.alloc A).alloc B).alloc C).alloc D) none ∧ ((((w.alloc A).alloc B).alloc C).alloc D).heap.size = w.heap.size + 4 := by
  obtain ⟨h1, h2, h3, g, s⟩ := three_new w A B C
  have g4 := World.grownBy_alloc (((w.alloc A).alloc B).alloc C) D none
  have h4 := heap_alloc_new (((w.alloc A).alloc B).alloc C) D
  rw [s] at h4
  exact ⟨kept_row h1 g4 (by simp), kept_row h2 g4 (by simp), kept_row h3 g4 (by simp), h4, grown_trans g g4, by simp⟩
end Go.Proofs.YtpabfjhjehjebaaDoor

/- The reference's functions on bits: Count, Nth, First, Rank, Spread, Gather. -/
namespace Go.Proofs.YtpabfjhjehjebaaDoor
open Go.RowKit Bs

/-- The call returned v and made memory alone. -/
def Nw (v : Value) (w : World) (e : Ending) (w' : World) : Prop := e = .returned v ∧ w.grownBy w' none
set_option maxRecDepth 100000 in
theorem Rd.form {w : World} {q : Nat → Prop} {v : Value} {vs : List Value} {n : Nat} (h : Rd w q v vs) (hn : vs.length = n) : ∃ p c, v = .slice p n c := by
  obtain ⟨p, c, hv, _⟩ := h
  exact ⟨p, c, by rw [hv, hn]⟩
set_option maxRecDepth 100000 in
theorem Rd.at1_ {w : World} {q : Nat → Prop} {p : Option Addr} {n c : Nat} {vs : List Value} {i : Nat} {x : Value} (h : Rd w q (.slice p n c) vs) (hi : vs[i]? = some x) :
    ∃ b off, p = some ⟨b, off, none⟩ ∧ w.cell? ⟨b, off + i, none⟩ = some x := by
  obtain ⟨p', c', hv, hc⟩ := h
  injection hv with e1 e2 e3
  subst e1
  obtain ⟨b, off, hp, _, hx⟩ := hc (by intro e; rw [e] at hi; simp at hi)
  exact ⟨b, off, hp, hx i x hi⟩
set_option maxRecDepth 100000 in
theorem bl_map_len (b : Nat) : ((bl b).map ival).length = cnt b := by rw [List.length_map]; rfl
set_option maxRecDepth 100000 in
theorem bl_map_at {b i k : Nat} (h : (bl b)[i]? = some k) : ((bl b).map ival)[i]? = some (.int .i64 (k : Int)) := by rw [List.getElem?_map, h]; rfl
set_option maxRecDepth 100000 in
theorem bl_at {b i : Nat} (h : i < cnt b) : ∃ k, (bl b)[i]? = some k ∧ k < 64 := by
  have h' : i < (bl b).length := h
  exact ⟨(bl b)[i], List.getElem?_eq_getElem h', bl_lt (List.getElem_mem h')⟩

set_option maxRecDepth 100000 in
theorem nth_zero (b : Nat) (hb : U64 b) : nth b 0 = fst b := by
  by_cases h0 : b = 0
  · subst h0; decide +kernel
  · rw [fst_pos h0]; exact nth_at (bl_head h0 hb.lt)
set_option maxRecDepth 100000 in
theorem rk_step_t {b j : Nat} (h : b.testBit j = true) : (blN (j + 1) b).length = (blN j b).length + 1 := by rw [bl_snoc_t h]; simp
def rkN (j b : Nat) : Nat := (blN j b).length
set_option maxRecDepth 100000 in
theorem rkN_le (j b : Nat) : rkN j b ≤ j := blN_length_le j b
set_option maxRecDepth 100000 in
theorem rkN_t {b j : Nat} (h : b.testBit j = true) : rkN (j + 1) b = rkN j b + 1 := rk_step_t h
set_option maxRecDepth 100000 in
theorem rkN_f {b j : Nat} (h : b.testBit j = false) : rkN (j + 1) b = rkN j b := by unfold rkN; rw [bl_snoc_f h]
set_option maxRecDepth 100000 in
theorem put_t (k : Nat) : put true k = b2 k := rfl
set_option maxRecDepth 100000 in
theorem put_f (k : Nat) : put false k = 0 := rfl
set_option maxRecDepth 100000 in
theorem spr_hit {x b j k : Nat} (hk : (bl b)[j]? = some k) (ht : x.testBit j = true) (h64 : k < 64) :
    bits .or .u64 ((spr x (bl b) j : Nat) : Int) ((b2 k : Nat) : Int) = ((spr x (bl b) (j + 1) : Nat) : Int) := by
  rw [orU _ _ (spr_u64 x b j) (b2_u64 h64), spr_next hk, ht]; rfl
set_option maxRecDepth 100000 in
theorem spr_miss {x j : Nat} {l : List Nat} (ht : x.testBit j = false) : spr x l (j + 1) = spr x l j := by
  rw [spr, ht, put_f]; simp
set_option maxRecDepth 100000 in
theorem gat_hit {x b j k : Nat} (hk : (bl b)[j]? = some k) (ht : x.testBit k = true) (h64 : j < 64) :
    bits .or .u64 ((gat x (bl b) j : Nat) : Int) ((b2 j : Nat) : Int) = ((gat x (bl b) (j + 1) : Nat) : Int) := by
  rw [orU _ _ (gat_u64 x _ j (by omega)) (b2_u64 h64), gat_next hk, ht]; rfl
set_option maxRecDepth 100000 in
theorem gat_miss {x j k : Nat} {l : List Nat} (hk : l[j]? = some k) (ht : x.testBit k = false) : gat x l (j + 1) = gat x l j := by
  rw [gat_next hk, ht, put_f]; simp
end Go.Proofs.YtpabfjhjehjebaaDoor

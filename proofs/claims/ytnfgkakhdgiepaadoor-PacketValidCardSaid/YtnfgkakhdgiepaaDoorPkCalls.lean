/- packet: the calls of bitio over lists of bits. -/
import Derived.Test.YtnfgkakhdgiepaaDoorPkHead
import Derived.Lib.ConvBytes
namespace Go.Proofs.YtnfgkakhdgiepaaDoor
open Go.RowKit Bs
section
variable {w : World} {B : List Bool} {p : Option Addr} {c : Nat} {q : Nat → Prop}
/-- A stream of these bits and no error are returned. -/
def BT (B : List Bool) (w : World) (e : Ending) (w' : World) : Prop :=
  ∃ p2 c2, e = .returned (.tuple #[.agg #[.slice p2 (pk B).length c2, .int .i64 (B.length : Int)], .int .i64 0]) ∧ Rd w' (w.heap.size ≤ ·) (.slice p2 (pk B).length c2) ((pk B).map nv) ∧ (p2 = none → c2 = 0) ∧ w.grownBy w' none
set_option maxRecDepth 100000 in
theorem join_bits {l : List Nat} {p' : Option Addr} {c' : Nat} {q' : Nat → Prop} (hl : By l) (h : B.length + 8 * l.length ≤ 8192) (hR : Rd w q (.slice p (pk B).length c) ((pk B).map nv)) (hR' : Rd w q' (.slice p' l.length c') (l.map nv)) :
    Calls Tryd.prog 70 #[.agg #[.slice p (pk B).length c, .int .i64 (B.length : Int)], .agg #[.slice p' l.length c', .int .i64 ((8 * l.length : Nat) : Int)]] w fun e w' => BT (B ++ pb l) w e w' := by
  refine (joinp_any (pk B) l (B.length : Int) ((8 * l.length : Nat) : Int) _ p p' c c' (pk_by B) hl w (fun _ h => h) hR.bound hR'.bound).mono fun e w' hp => ?_
  have e1 := jnV_pk B (pb l) (by rw [pb_len]; exact h)
  rw [pk_pb l hl, pb_len] at e1
  rw [e1] at hp
  obtain ⟨u, he, ⟨p2, c2, rfl, h1, h2, _⟩, hg⟩ := hp
  exact ⟨p2, c2, he, h1, h2, hg⟩
set_option maxRecDepth 100000 in
theorem chk_same {f g : Nat → Bool} : ∀ k, (∀ i, i < k → f i = g i) → chk f k = chk g k
  | 0, _ => rfl
  | k + 1, h => by
    unfold chk
    rw [chk_same k fun i hi => h i (by omega), h k (by omega)]
set_option maxRecDepth 100000 in
theorem check_bits (h : B.length ≤ 8192) (hR : Rd w q (.slice p (pk B).length c) ((pk B).map nv)) :
    Calls Tryd.prog 71 #[.agg #[.slice p (pk B).length c, .int .i64 (B.length : Int)]] w fun e w' => e = .returned (.tuple #[.int .u64 ((ck B : Nat) : Int), .int .i64 0]) ∧ w.grownBy w' none := by
  refine (checkp_any (pk B) (B.length : Int) _ p c (pk_by B) w hR.bound).mono fun e w' hp => ?_
  obtain ⟨he, hg⟩ := hp
  rw [chkV_ok (pk_vs B h)] at he
  rw [show ck B = chk (bt (pk B)) B.length from (chk_same _ fun i hi => bt_pk B i (by omega)).symm]
  exact ⟨he, hg⟩
set_option maxRecDepth 100000 in
theorem align_bits (h : B.length ≤ 8192) (hR : Rd w q (.slice p (pk B).length c) ((pk B).map nv)) :
    Calls Tryd.prog 72 #[.agg #[.slice p (pk B).length c, .int .i64 (B.length : Int)]] w fun e w' =>
      ∃ p2 c2, e = .returned (.tuple #[.agg #[.slice p2 (pk B).length c2, .int .i64 ((8 * (pk B).length : Nat) : Int)], .int .i64 0]) ∧ Rd w' (w.heap.size ≤ ·) (.slice p2 (pk B).length c2) ((pk B).map nv) ∧ (p2 = none → c2 = 0) ∧ w.grownBy w' none := by
  refine (alignp_any (pk B) (B.length : Int) _ p c (pk_by B) w hR.bound).mono fun e w' hp => ?_
  rw [alV_pk B h] at hp
  obtain ⟨u, he, ⟨p2, c2, rfl, h1, h2, _⟩, hg⟩ := hp
  exact ⟨p2, c2, he, h1, h2, hg⟩
set_option maxRecDepth 100000 in
theorem bw_grown (w : World) (e : TypeId) (s : ByteArray) : w.grownBy (Lib.bytesWorld w e s) none :=
  ⟨rfl, rfl, rfl, by rw [Lib.bytesWorld_size]; omega, fun j hj _ => Lib.bytesWorld_at_old w e s j hj⟩
set_option maxRecDepth 100000 in
theorem bw_rd (w : World) (e : TypeId) (s : ByteArray) (c : Nat) : Rd (Lib.bytesWorld w e s) (· = w.heap.size) (.slice (some ⟨w.heap.size, 0, none⟩) (byl s).length c) ((byl s).map nv) := by
  refine ⟨_, c, by rw [List.length_map], fun _ => ⟨w.heap.size, 0, rfl, rfl, fun j x hj => ?_⟩⟩
  have hl : j < s.size := by
    have := (List.getElem?_eq_some_iff.1 hj).1
    rw [List.length_map, byl_len] at this; exact this
  rw [Nat.zero_add, Lib.bytesWorld_cell w e s j hl]
  unfold byl at hj
  rw [List.map_map, List.getElem?_map] at hj
  have hd : j < s.data.toList.length := by rw [Array.length_toList]; exact hl
  rw [List.getElem?_eq_getElem hd] at hj
  rw [List.getD_eq_getElem?_getD, List.getElem?_eq_getElem hd]
  exact hj
end
end Go.Proofs.YtnfgkakhdgiepaaDoor

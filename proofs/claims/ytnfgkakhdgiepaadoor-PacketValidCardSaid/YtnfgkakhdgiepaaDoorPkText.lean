/- The tape's texts. -/
import Derived.Test.YtnfgkakhdgiepaaDoorIoWild
import Derived.Test.YtnfgkakhdgiepaaDoorIoCheckR
namespace Go.Proofs.YtnfgkakhdgiepaaDoor
open Go.RowKit Bs
def bval (x : UInt8) : Value := .int .u8 (x.toNat : Int)
set_option maxRecDepth 100000 in
theorem conv_bytes {w : World} {q : Nat → Prop} {v : Value} {l : List UInt8} (hR : Rd w q v (l.map bval)) (h0 : l = [] → v = .slice none 0 0) :
    (convert 34 9 v).run Tryd.prog w = .ok (.string ⟨l.toArray⟩) w := by
  by_cases hl : l = []
  · rw [h0 hl, hl]
    exact Lib.run_convert_nil_bytes (P := Tryd.prog) w 34 9 5 0 Tryd.underlying34 Tryd.underlying5 Tryd.underlying9
  · obtain ⟨p, c, rfl, hc⟩ := hR
    obtain ⟨b, off, rfl, _, hcell⟩ := hc (by simpa using hl)
    rw [List.length_map]
    refine run_convert_bytes_back (P := Tryd.prog) w 34 9 5 ⟨b, off, none⟩ c l Tryd.underlying34 Tryd.underlying5 Tryd.underlying9 (fun j hj => ?_)
    have hadd : (⟨b, off, none⟩ : Addr).add j = ⟨b, off + j, none⟩ := by unfold Addr.add; split <;> simp_all
    rw [hadd]
    exact hcell j _ (by rw [List.getElem?_map, List.getElem?_eq_getElem hj]; rfl)
/-- A drawn text. -/
def TextRel (a most : Nat) (w : World) (v : Value) (k : Nat) (wr : World) : Prop :=
  ∃ l : List UInt8, l.length + k ≤ most ∧ wr.ownsRow w.heap.size 5 1 v l.length (l.map bval) ∧ (l = [] → v = .slice none 0 0) ∧ St a w wr
set_option maxRecDepth 100000 in
theorem TextRel.open_ {a most k : Nat} {w wr : World} {v : Value} (h : TextRel a most w v k wr) : ∃ l : List UInt8, l.length + k ≤ most ∧ wr.ownsRow w.heap.size 5 1 v l.length (l.map bval) ∧ (l = [] → v = .slice none 0 0) ∧ St a w wr := h
def TextPost (a most : Nat) (w : World) (e : Ending) (w' : World) : Prop := ∃ s : ByteArray, e = .returned (.string s) ∧ s.size ≤ most ∧ St a w w'
set_option maxRecDepth 100000 in
set_option maxHeartbeats 1600000 in
theorem text_any (a : Nat) (most : Nat) (hm : most ≤ 1000) (w : World) (hT : Tp w a) :
    Calls Tryd.prog 62 #[.pointer (some ⟨a, 0, none⟩), .int .i64 (most : Int)] w fun e w' => TextPost a most w e w' := by
  obtain ⟨i0, hi, hz0, hz1, hz2⟩ := info_parts info_u8
  have ha := hT.lt
  go_enter Tryd.func62, Tryd.ntmps62
  go_wp2_with fail
  refine (range_any a 0 (most : Int) (by omega) (by omega) (by omega) (by omega) _ hT).mono ?_
  rintro e w1 ⟨r, rfl, hr, hs1⟩
  obtain ⟨K, rfl⟩ := Int.eq_ofNat_of_zero_le hr.1
  have hK : K ≤ most := by unfold RangeOf at hr; omega
  have L0 : Hid (TextRel a most w (.slice none 0 0) K w1) :=
    Lib.hid ⟨[], by simpa using hK, World.ownsRow_nil _ _ _ _, fun _ => rfl, hs1⟩
  clear hr hs1
  go_wp2_with fail
  go_loopw [5, 6] (fun v i wr => ∃ k : Nat, k ≤ most ∧ i = .int .i64 (k : Int) ∧ TextRel a most w v k wr) (fun _ i _ => (intOf i).toNat)
  case atStart => exact ⟨K, hK, rfl, L0.out⟩
  case round =>
    obtain ⟨k, hk, rfl, hL⟩ := hrel
    obtain ⟨l, hlk, hown0, hnil, hs⟩ := hL.open_
    clear hL L0
    by_cases hk1 : 1 ≤ k
    · clear hnil
      go_wp2_with fail
      refine (next_any a 256 (by unfold I64; omega) _ hs.2).mono ?_
      rintro e w2 ⟨x, rfl, hx, hs2⟩
      obtain ⟨X, rfl⟩ := Int.eq_ofNat_of_zero_le hx.1
      have hX : X < 256 := by have := hx.2.1 (by omega); omega
      have hown := own_kept ha hown0 hs2.1
      have HS := Lib.hid (hs.trans hs2)
      have HO := Lib.hid hown
      have hsz := HS.out.1.size
      have hll : l.length ≤ 1000 := by omega
      have HLK := Lib.hid hlk
      clear hx hs hs2 hown0
      go_wp2_with (at_builtin; refine wpList_append_own _ rfl _ _ 34 rfl w.heap.size 5 i0 (.int .u8 0) 1 1 Tryd.underlying34 hi hz0 hz1 hz2 rfl (by decide) _ _ _ rfl (hown.alloc _) ⟨w2.heap.size, 0, none⟩ 1 1 [.int .u8 (X : Int)] rfl rfl ?c1 ?c2 ?c3 ?c4 ?c5 ?_)
      case c1 => exact cell_one _ _ _
      case c2 => intro u hu; simp at hu; subst hu; rfl
      case c3 => unfold maxLen; omega
      case c4 => omega
      case c5 => simp; omega
      intro v' w3 hown' hg _
      have R : Hid (TextRel a most w v' (k - 1) w3) := by
        have e1 := st_append HS.out ha HO.out hg
        have ex : bval (UInt8.ofNat X) = .int .u8 (X : Int) := by
          show Value.int .u8 (((UInt8.ofNat X).toNat : Nat) : Int) = _
          rw [UInt8.toNat_ofNat', Nat.mod_eq_of_lt hX]
        exact Lib.hid ⟨l ++ [UInt8.ofNat X], by rw [List.length_append]; have := HLK.out; simp; omega, by rw [List.length_append, List.map_append, List.map_cons, List.map_nil, ex]; exact hown', fun e => by simp at e, e1⟩
      clear hown' hg hown
      go_wp2_with fail
      go_roundw
      case rel => exact ⟨k - 1, by omega, by congr 1; omega, R.out⟩
      case measure => simp [intOf]; omega
    · obtain rfl : k = 0 := by omega
      have hconv := conv_bytes (rd_of_own hown0) hnil
      have HS := Lib.hid hs
      have HL := Lib.hid hlk
      clear hown0 hnil hs hlk
      go_wp2_with fail
      go_ret
      exact ⟨_, rfl, by have := HL.out; show l.toArray.size ≤ most; simp; omega, HS.out⟩
end Go.Proofs.YtnfgkakhdgiepaaDoor

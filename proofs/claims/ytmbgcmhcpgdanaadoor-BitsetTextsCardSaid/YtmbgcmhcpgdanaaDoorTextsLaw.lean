/- BitsetTexts: the walk. -/
import Derived.Test.YtmbgcmhcpgdanaaDoorText
import Derived.Test.YtmbgcmhcpgdanaaDoorWild
import Derived.Test.YtmbgcmhcpgdanaaDoorBytesLaw
import Derived.Deep.RegionHeld3
namespace Go.Proofs.YtmbgcmhcpgdanaaDoor
open Go.RowKit Bs

set_option maxHeartbeats 400000 in
theorem formatr_any (b : Nat) (n : Int) (hb : U64 b) (w : World) :
    Calls Tryd.prog 53 #[.int .u64 (b : Int), .int .i64 n] w fun e w' => e = .returned (.string ⟨(fmt b n).toArray⟩) ∧ w = w' := by
  by_cases h : vb b n = true
  · obtain ⟨N, rfl, h1, h2⟩ : ∃ N : Nat, n = (N : Int) ∧ 1 ≤ N ∧ N ≤ 64 := ⟨n.toNat, by rcases vl_cases (vb_vl h) with rfl | rfl | rfl | rfl <;> exact ⟨rfl, by decide, by decide⟩⟩
    have e : fmt b (N : Int) = fm b N := by unfold fmt; rw [h, Int.toNat_natCast]; rfl
    rw [e]
    exact formatr_core b N hb h1 h2 h w
  · have hv : vb b n = false := by simpa using h
    have V : Hid (fmt b n = []) := by show fmt b n = []; unfold fmt; rw [hv]; rfl
    clear h
    go_enter Tryd.func53, Tryd.ntmps53
    go_wp2_with (go_at_call 20; refine (validr_any _ _ hb _).mono ?_; rintro e w' ⟨rfl, rfl⟩)
    go_ret
    exact ⟨by rw [V.out]; rfl, rfl⟩
theorem fm_getD {b N j : Nat} (h : j < N) : (fm b N).getD j 0 = fdig b N j := by
  rw [List.getD_eq_getElem?_getD, List.getElem?_eq_getElem (by rw [fm_len]; exact h)]
  unfold fm
  simp
theorem fdig_val (b N j : Nat) : (fdig b N j).toNat - 48 = b / 2 ^ (N - 1 - j) % 2 := by
  unfold fdig
  rw [Nat.testBit_eq_decide_div_mod_eq]
  rcases (show b / 2 ^ (N - 1 - j) % 2 = 0 ∨ b / 2 ^ (N - 1 - j) % 2 = 1 by omega) with h | h
  · rw [h]; rfl
  · rw [h]; rfl
theorem prn_fm {x N : Nat} (hx : x < 2 ^ N) : ∀ j, j ≤ N → prn (fm x N) j = x / 2 ^ (N - j)
  | 0, _ => by rw [prn, Nat.sub_zero, Nat.div_eq_of_lt hx]
  | j + 1, h => by
    rw [prn, prn_fm hx j (by omega), fm_getD (by omega), fdig_val]
    have e1 : N - j = (N - 1 - j) + 1 := by omega
    have e2 : N - (j + 1) = N - 1 - j := by omega
    rw [e1, e2, Nat.pow_succ, ← Nat.div_div_eq_div_mul]
    generalize x / 2 ^ (N - 1 - j) = q
    omega
theorem fdig_01 (b N j : Nat) : dig01 (fdig b N j) = true := by
  unfold fdig
  cases b.testBit (N - 1 - j) <;> rfl
/-- Parse undoes Format. -/
theorem prs_fm {x N : Nat} (hx : U64 x) (hv : vb x (N : Int) = true) (hl : vl (N : Int) = true) : prsV (fm x N) = (x, (N : Int), 0) := by
  have hc : N ≤ 64 := by rcases vl_cases hl with h | h | h | h <;> omega
  rw [prsV_ok (by rw [fm_len]; exact hl) (fun k hk => by rw [fm_len] at hk; rw [fm_getD hk]; exact fdig_01 _ _ _), fm_len, prn_fm (vb_lt hx hv hc) N (Nat.le_refl _), Nat.sub_self]
  simp
theorem PrsPost.ends {l : List UInt8} {w w' : World} {e : Ending} (h : PrsPost l w e w') : ∃ (x : Nat) (y z : Int), e = .returned (.tuple #[.int .u64 (x : Int), .int .i64 y, .int .i64 z]) ∧ Hid (prsV l = (x, y, z)) ∧ w = w' :=
  ⟨(prsV l).1, (prsV l).2.1, (prsV l).2.2, h.1, Lib.hid rfl, h.2⟩
theorem PrsPost.same {l : List UInt8} {w w' : World} {e : Ending} {x : Nat} {y z : Int} (hv : Hid (prsV l = (x, y, z))) (h : PrsPost l w e w') : e = .returned (.tuple #[.int .u64 (x : Int), .int .i64 y, .int .i64 z]) ∧ w = w' := by
  obtain ⟨h1, h2⟩ := h
  rw [hv.out] at h1
  exact ⟨h1, h2⟩

/-- A drawn text. -/
def TextRel (a most : Nat) (w : World) (v : Value) (k : Nat) (wr : World) : Prop :=
  ∃ l : List UInt8, l.length + k ≤ most ∧ wr.ownsRow w.heap.size 5 1 v l.length (l.map bval) ∧ (l = [] → v = .slice none 0 0) ∧ St a w wr
theorem TextRel.open_ {a most k : Nat} {w wr : World} {v : Value} (h : TextRel a most w v k wr) : ∃ l : List UInt8, l.length + k ≤ most ∧ wr.ownsRow w.heap.size 5 1 v l.length (l.map bval) ∧ (l = [] → v = .slice none 0 0) ∧ St a w wr := h
def TextPost (a most : Nat) (w : World) (e : Ending) (w' : World) : Prop := ∃ s : ByteArray, e = .returned (.string s) ∧ s.size ≤ most ∧ St a w w'
set_option maxHeartbeats 1600000 in
theorem text_any (a : Nat) (most : Nat) (hm : most ≤ 1000) (w : World) (hT : Tp w a) :
    Calls Tryd.prog 54 #[.pointer (some ⟨a, 0, none⟩), .int .i64 (most : Int)] w fun e w' => TextPost a most w e w' := by
  obtain ⟨i0, hi, hz0, hz1, hz2⟩ := info_parts info_u8
  have ha := hT.lt
  go_enter Tryd.func54, Tryd.ntmps54
  go_wp2_with fail
  refine (range_any a 0 (most : Int) (by omega) (by omega) (by omega) (by omega) _ hT).mono ?_
  rintro e w1 ⟨r, rfl, hr, hs1⟩
  obtain ⟨K, rfl⟩ := Int.eq_ofNat_of_zero_le hr.1
  have hK : K ≤ most := by unfold RangeOf at hr; omega
  have L0 : Hid (TextRel a most w (.slice none 0 0) K w1) :=
    Lib.hid ⟨[], by simpa using hK, World.ownsRow_nil _ _ _ _, fun _ => rfl, hs1⟩
  clear hr hs1
  go_wp2_with fail
  go_loopw [5, 6] (fun v i wr => ∃ k : Nat, k ≤ most ∧ i = .int .i64 (k : Int) ∧ TextRel a most w v k wr) (fun _ i _ => (intOf i).toNat)
  case atStart => exact ⟨K, hK, rfl, L0.out⟩
  case round =>
    obtain ⟨k, hk, rfl, hL⟩ := hrel
    obtain ⟨l, hlk, hown0, hnil, hs⟩ := hL.open_
    clear hL L0
    by_cases hk1 : 1 ≤ k
    · clear hnil
      go_wp2_with fail
      refine (next_any a 256 (by unfold I64; omega) _ hs.2).mono ?_
      rintro e w2 ⟨x, rfl, hx, hs2⟩
      obtain ⟨X, rfl⟩ := Int.eq_ofNat_of_zero_le hx.1
      have hX : X < 256 := by have := hx.2.1 (by omega); omega
      have hown := own_kept ha hown0 hs2.1
      have HS := Lib.hid (hs.trans hs2)
      have HO := Lib.hid hown
      have hsz := HS.out.1.size
      have hll : l.length ≤ 1000 := by omega
      have HLK := Lib.hid hlk
      clear hx hs hs2 hown0
      go_wp2_with (at_builtin; refine wpList_append_own _ rfl _ _ 49 rfl w.heap.size 5 i0 (.int .u8 0) 1 1 Tryd.underlying49 hi hz0 hz1 hz2 rfl (by decide) _ _ _ rfl (hown.alloc _) ⟨w2.heap.size, 0, none⟩ 1 1 [.int .u8 (X : Int)] rfl rfl ?c1 ?c2 ?c3 ?c4 ?c5 ?_)
      case c1 => exact cell_one _ _ _
      case c2 => intro u hu; simp at hu; subst hu; rfl
      case c3 => unfold maxLen; omega
      case c4 => omega
      case c5 => simp; omega
      intro v' w3 hown' hg _
      have R : Hid (TextRel a most w v' (k - 1) w3) := by
        have e1 := st_append HS.out ha HO.out hg
        have ex : bval (UInt8.ofNat X) = .int .u8 (X : Int) := by
          show Value.int .u8 (((UInt8.ofNat X).toNat : Nat) : Int) = _
          rw [UInt8.toNat_ofNat', Nat.mod_eq_of_lt hX]
        exact Lib.hid ⟨l ++ [UInt8.ofNat X], by rw [List.length_append]; have := HLK.out; simp; omega, by rw [List.length_append, List.map_append, List.map_cons, List.map_nil, ex]; exact hown', fun e => by simp at e, e1⟩
      clear hown' hg hown
      go_wp2_with fail
      go_roundw
      case rel => exact ⟨k - 1, by omega, by congr 1; omega, R.out⟩
      case measure => simp [intOf]; omega
    · obtain rfl : k = 0 := by omega
      have hconv := conv_bytes (rd_of_own hown0) hnil
      have HS := Lib.hid hs
      have HL := Lib.hid hlk
      clear hown0 hnil hs hlk
      go_wp2_with fail
      go_ret
      exact ⟨_, rfl, by have := HL.out; show l.toArray.size ≤ most; simp; omega, HS.out⟩
theorem strs2 (w : World) (s t : ByteArray) (hs : s.size ≤ 9223372036854775807) (ht : t.size ≤ 9223372036854775807) :
    ∀ j, j < 2 → ∃ u : ByteArray, u.size ≤ 9223372036854775807 ∧ (w.alloc (.cells #[.string s, .string t] 9)).cell? ⟨w.heap.size, j, none⟩ = some (.string u) := by
  intro j hj
  have hh : (w.alloc (.cells #[.string s, .string t] 9)).heap[w.heap.size]? = _ := heap_alloc_new w _
  rw [cell_of_row _ _ _ _ _ _ hh]
  match j, hj with
  | 0, _ => exact ⟨s, hs, rfl⟩
  | 1, _ => exact ⟨t, ht, rfl⟩
set_option maxRecDepth 100000 in
set_option maxHeartbeats 2000000 in
theorem texts_walk (v : Value) (b : Nat) (n : Int) (raw : ByteArray) (hb : U64 b) (hraw : raw.size ≤ 9223372036854775807) (w : World) (hv : IntsIn w v) (hT : Tb w) :
    Calls Tryd.prog 9 #[v, .int .u64 (b : Int), .int .i64 n, .string raw] w fun e w' => Nw (.bool true) w e w' := by
  go_enter Tryd.func9, Tryd.ntmps9
  go_wp2_with fail
  refine (new_any v w hv).mono ?_
  rintro e w1 ⟨rfl, hg1, hT1⟩
  go_wp2_with fail
  refine (length_any _ _ hT1).mono ?_
  rintro e w2 ⟨r, rfl, hr, hs2⟩
  obtain ⟨N, rfl⟩ : ∃ N : Nat, r = (N : Int) := ⟨r.toNat, by rcases vl_cases hr with rfl | rfl | rfl | rfl <;> rfl⟩
  have hN1 : 1 ≤ N := by have := vl_cases hr; omega
  have hN2 : N ≤ 64 := by have := vl_cases hr; omega
  have HRV := Lib.hid hr
  go_wp2_with fail
  refine (bits_any _ (N : Int) hr _ hs2.2).mono ?_
  rintro e w3 ⟨x, rfl, hx, hvx, hs3⟩
  have s13 := hs2.trans hs3
  have HP := Lib.hid (prs_fm hx hvx HRV.out)
  have HVX := Lib.hid hvx
  clear hr hs2 hs3 hT1 hvx
  go_wp2_with fail
  refine (formatp_core x N hx hN1 hN2 HVX.out _).mono ?_
  rintro e w4 ⟨rfl, hg4⟩
  go_wp2_with fail
  refine (prsp_any _ (by show (fm x N).toArray.size ≤ _; simp [fm_len]; omega) _).mono ?_
  intro e w' h
  obtain ⟨rfl, rfl⟩ := h.same HP
  clear h
  go_wp2_with fail
  refine (formatr_core x N hx hN1 hN2 HVX.out _).mono ?_
  rintro e w' ⟨rfl, rfl⟩
  go_wp2_with fail
  refine (formatp_any b n hb _).mono ?_
  rintro e w5 ⟨rfl, hg5⟩
  go_wp2_with fail
  refine (formatr_any b n hb _).mono ?_
  rintro e w' ⟨rfl, rfl⟩
  have hl : (fm x N).length = N := fm_len x N
  have hTp5 := s13.2.keep (grown_trans hg4 hg5)
  have s15 : St w.heap.size w1 w5 := ⟨grown_trans s13.1 (grown_none (grown_trans hg4 hg5) _), hTp5⟩
  clear hg4 hg5 s13
  have hsz : (⟨(fm x N).toArray⟩ : ByteArray).size = N := by show (fm x N).toArray.size = N; simp [fm_len]
  generalize (⟨(fm x N).toArray⟩ : ByteArray) = T at *
  clear hl
  go_wp2_with fail
  refine (next_any _ (N : Int) (by unfold I64; omega) _ hTp5).mono ?_
  rintro e w6 ⟨q, rfl, hq, hs6⟩
  obtain ⟨Q, rfl⟩ := Int.eq_ofNat_of_zero_le hq.1
  have hQ : Q < N := by have := hq.2.1 (by omega); omega
  have s16 := s15.trans hs6
  have hTp6 := s16.2
  have S16 := Lib.hid s16
  have q0 : (0 : Int) ≤ (Q : Int) := by omega
  have q1 : (Q : Int) ≤ (N : Int) := by omega
  have q2 : (Q : Int) + 1 ≤ (N : Int) := by omega
  have q3 : (0 : Int) ≤ (Q : Int) + 1 := by omega
  have q4 : ((Q : Int) + 1).toNat = Q + 1 := by omega
  have q5 : IntKind.i64.wrap ((Q : Int) + 1) = (Q : Int) + 1 := IntWalk.i64_in _ (by omega)
  have GR : Hid (w6.grownBy w6 (some w.heap.size)) := Lib.hid (grown_refl _ _)
  clear hq hs6 s15 s16 hTp5
  go_wp2_with fail
  go_region_held3 (fun w' => Tp w' w.heap.size ∧ Hid (w6.grownBy w' (some w.heap.size)))
    (first | exact ⟨hTp6.drew, hid_drew GR⟩ | (go_split_ands; refine ⟨hsk.2, hid_more ?_ hsk.1⟩; assumption) | (go_split_ands; refine ⟨?_, ?_⟩ <;> assumption))
    (first
      | (go_at_call 54; refine (text_any _ 2 (by omega) _ ?_).mono ?_; (go_split_ands; assumption); rintro e w' ⟨tx, rfl, htx, hsk⟩; have z5 : ¬ 9223372036854775807 < min Q N + tx.size := (by omega); have z6 : ¬ 9223372036854775807 < min Q N + tx.size + (N - (Q + 1)) := (by omega)))
  go_split_ands
  have TP : Tp w' w.heap.size := by assumption
  have GW : Hid (w6.grownBy w' (some w.heap.size)) := by assumption
  have hbs : ((T.extract 0 Q ++ tx) ++ T.extract (Q + 1) N).size ≤ 9223372036854775807 := by
    rw [ByteArray.size_append, ByteArray.size_append, ByteArray.size_extract, ByteArray.size_extract, hsz]
    omega
  generalize ((T.extract 0 Q ++ tx) ++ T.extract (Q + 1) N) = bent at *
  have g7 : w.grownBy (w'.alloc (.cells #[.string bent, .string raw] 9)) none :=
    grown_tape hg1 (grown_trans (grown_trans S16.out.1 GW.out) (World.grownBy_alloc w' _ _))
  have G7 := Lib.hid g7
  have T7 := hT.keep g7
  have HS := strs2 w' bent raw hbs hraw
  clear hsk z5 z6 htx TP GW g7 hT hv hg1
  go_wp2_with fail
  generalize (w'.alloc (.cells #[.string bent, .string raw] 9)) = W at *
  generalize w'.heap.size = B at *
  by_cases hbig : raw.size ≤ 300
  · have bb : (((raw.size : Nat) : Int)) ≤ 300 := by omega
    have bbd : decide (((raw.size : Nat) : Int) ≤ 300) = true := by simpa using bb
    go_loop [19] (fun i => ∃ j : Nat, j ≤ 2 ∧ i = .int .i64 (j : Int)) (fun i => 2 - (intOf i).toNat)
    case atStart => exact ⟨0, by omega, rfl⟩
    case round =>
      obtain ⟨j, hj, rfl⟩ := hrel
      by_cases hlt : j < 2
      · obtain ⟨st, hst, hcell⟩ := HS j hlt
        go_wp2_with fail
        refine (prsp_any st hst _).mono ?_
        intro e w' h
        obtain ⟨px, py, pz, rfl, hp, rfl⟩ := h.ends
        clear h
        go_wp2_with fail
        refine (prsr_any st hst _).mono ?_
        intro e w' h
        obtain ⟨rfl, rfl⟩ := h.same hp
        go_wp2_with fail
        go_round
        case rel => exact ⟨j + 1, by omega, by go_num⟩
        case measure => simp [intOf]; omega
      · go_wp2_with fail
        refine (awake_any _ T7).mono ?_
        rintro e w' ⟨rfl, hg⟩
        go_wp2_with fail
        go_ret
        exact ⟨rfl, grown_trans G7.out hg⟩
  · have bbd : decide (((raw.size : Nat) : Int) ≤ 300) = false := by simp; omega
    have bb : (300 : Int) < (((raw.size : Nat) : Int)) := by omega
    go_loop [19] (fun i => i = .int .i64 0) (fun _ => 0)
    case atStart => rfl
    case round =>
      subst hrel
      go_wp2_with fail
      refine (awake_any _ T7).mono ?_
      rintro e w' ⟨rfl, hg⟩
      go_wp2_with fail
      go_ret
      exact ⟨rfl, grown_trans G7.out hg⟩
end Go.Proofs.YtmbgcmhcpgdanaaDoor

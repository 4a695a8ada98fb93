/- Parts of the proof, packed: PkSize, PkAwake, PkTapeN, PkList, PkRefs, PkRefs2, IoOrder, IoFlip. -/
import Derived.Test.YtnfgkakhdgiepaaDoorDt5
import Derived.Test.YtnfgkakhdgiepaaDoorDt6
import Derived.Test.YtnfgkakhdgiepaaDoorDt7
import Derived.Test.YtnfgkakhdgiepaaDoorDt8
import Derived.Deep.CutRange
import Derived.Deep.RegionHeld3
import Derived.Test.YtnfgkakhdgiepaaDoorDt3
/- packet: Size and Plane. -/
namespace Go.Proofs.YtnfgkakhdgiepaaDoor
open Go.RowKit Bs
def sizeV (P : Pk) : Nat := if vpk P = true then (49 + P.len.toNat + 8 * P.pay.size + 16 + 7) / 8 else 0
def planeV (P : Pk) : Int := if vpk P = true then P.ent % 8 else 0
set_option maxRecDepth 100000 in
theorem vpk_len {P : Pk} (h : vpk P = true) : P.len = ((P.len.toNat : Nat) : Int) ∧ P.len.toNat ≤ 64 := by
  rcases vl_cases (vb_vl (vpk_parts h).2.2.2.2.2.2.2.2) with h | h | h | h <;> rw [h] <;> decide
set_option maxRecDepth 100000 in
set_option maxHeartbeats 3200000 in
theorem psize_any (P : Pk) (hP : P.Wf) (w : World) :
    Calls Tryd.prog 18 #[P.val] w fun e w' => e = .returned (.int .i64 ((sizeV P : Nat) : Int)) ∧ w.grownBy w' none := by
  have hval : P.val = .agg #[.int .i64 P.mode, .int .i64 P.sub, .int .i64 P.set, .int .i64 P.len, .int .i64 P.ttl, .int .i64 P.ent, .int .i64 P.ing, .int .i64 P.pro, .int .u64 (P.bits : Int), .string P.pay] := rfl
  rw [hval]
  go_enter Tryd.func18, Tryd.ntmps18
  go_wp2_with fail
  obtain ⟨k1, k2⟩ := one_box w (pcells P) 25
  have HP := Lib.hid (And.intro k1 k2)
  clear k1 k2
  unfold pcells at HP
  generalize w.alloc _ = wa at *
  change Hid (wa.heap[w.heap.size]? = some (.cells (pcells P) 25 (0, 0)) ∧ w.grownBy wa none) at HP
  rw [← hval]
  refine (pvalid_any P hP _).mono ?_
  rintro e w1 ⟨rfl, hg⟩
  have HQ := Lib.hid (And.intro (kept_row HP.out.1 hg (by simp)) (grown_trans HP.out.2 hg))
  clear hg HP
  by_cases hv : vpk P = true
  · have hE : Hid (sizeV P = (49 + P.len.toNat + 8 * P.pay.size + 16 + 7) / 8) := Lib.hid (by unfold sizeV; rw [if_pos hv])
    obtain ⟨hn, hn2⟩ := vpk_len hv
    have hp := (vpk_parts hv).2.2.2.2.2.2.2.1
    have HN := Lib.hid hn
    rw [hv]
    clear hv hn
    obtain ⟨_, _, _, a3, _, _, _, _, _, a9⟩ := p_facts HQ.out.1
    go_wp2_with fail
    rw [HN.out]
    refine (bytesForP_any P.len.toNat P.pay.size (by omega) (by omega) _).mono ?_
    rintro e w' ⟨rfl, rfl⟩
    rw [← hE.out]
    go_wp2_with fail
    go_ret
    exact ⟨rfl, HQ.out.2⟩
  · have hf : vpk P = false := by simpa using hv
    have hE : Hid (sizeV P = 0) := Lib.hid (by unfold sizeV; rw [if_neg hv])
    rw [hf]
    clear hf hv
    go_wp2_with fail
    go_ret
    exact ⟨by rw [hE.out]; rfl, HQ.out.2⟩
set_option maxRecDepth 100000 in
theorem pplane_any (P : Pk) (hP : P.Wf) (w : World) :
    Calls Tryd.prog 20 #[P.val] w fun e w' => e = .returned (.int .i64 (planeV P)) ∧ w.grownBy w' none := by
  have hval : P.val = .agg #[.int .i64 P.mode, .int .i64 P.sub, .int .i64 P.set, .int .i64 P.len, .int .i64 P.ttl, .int .i64 P.ent, .int .i64 P.ing, .int .i64 P.pro, .int .u64 (P.bits : Int), .string P.pay] := rfl
  rw [hval]
  go_enter Tryd.func20, Tryd.ntmps20
  go_wp2_with fail
  obtain ⟨k1, k2⟩ := one_box w (pcells P) 25
  have HP := Lib.hid (And.intro k1 k2)
  clear k1 k2
  unfold pcells at HP
  generalize w.alloc _ = wa at *
  change Hid (wa.heap[w.heap.size]? = some (.cells (pcells P) 25 (0, 0)) ∧ w.grownBy wa none) at HP
  rw [← hval]
  refine (pvalid_any P hP _).mono ?_
  rintro e w1 ⟨rfl, hg⟩
  have HQ := Lib.hid (And.intro (kept_row HP.out.1 hg (by simp)) (grown_trans HP.out.2 hg))
  clear hg HP
  by_cases hv : vpk P = true
  · have hE : Hid (planeV P = P.ent % 8) := Lib.hid (by unfold planeV; rw [if_pos hv])
    have he := (vpk_parts hv).2.2.2.2.1
    obtain ⟨he1, he2⟩ := he
    rw [hv]
    clear hv
    obtain ⟨_, _, _, _, _, a5, _⟩ := p_facts HQ.out.1
    go_wp2_with fail
    go_ret
    exact ⟨by rw [hE.out]; rfl, HQ.out.2⟩
  · have hf : vpk P = false := by simpa using hv
    have hE : Hid (planeV P = 0) := Lib.hid (by unfold planeV; rw [if_neg hv])
    rw [hf]
    clear hf hv
    go_wp2_with fail
    go_ret
    exact ⟨by rw [hE.out]; rfl, HQ.out.2⟩
end Go.Proofs.YtnfgkakhdgiepaaDoor

/- packet: the chapter's example. -/
namespace Go.Proofs.YtnfgkakhdgiepaaDoor
open Go.RowKit Bs
/-- The example's packet. -/
def exP : Pk := ⟨1, 0, 0, 8, 0, 0, 0, 0, 0, ⟨#[]⟩⟩
set_option maxRecDepth 100000 in
theorem ex_valid : vpk exP = true := by decide +kernel
set_option maxRecDepth 100000 in
theorem ex_enc : enc exP = [144, 0, 0, 0, 0, 0, 0, 109, 76, 0] := by decide +kernel
set_option maxRecDepth 100000 in
theorem ex_size : sizeV exP = 10 := by decide +kernel
set_option maxRecDepth 100000 in
theorem ex_wf : exP.Wf := ⟨by unfold I64; decide, by unfold I64; decide, by unfold I64; decide, by unfold I64; decide, by unfold I64; decide, by unfold I64; decide, by unfold I64; decide, by unfold I64; decide, by unfold U64; decide, by decide⟩
set_option maxRecDepth 100000 in
theorem ex_dec : decV [144, 0, 0, 0, 0, 0, 0, 109, 76, 0] = (#[.int .i64 1, .int .i64 0, .int .i64 0, .int .i64 8, .int .i64 0, .int .i64 0, .int .i64 0, .int .i64 0, .int .u64 0, .string ⟨#[]⟩], 0) := by kernel_rfl
set_option maxRecDepth 100000 in
set_option maxHeartbeats 3200000 in
theorem awake_any (w : World) (hT : Tb w) :
    Calls Tryd.prog 22 #[] w fun e w' => e = .returned (.bool true) ∧ w.grownBy w' none := by
  go_enter Tryd.func22, Tryd.ntmps22
  go_wp2_with fail
  obtain ⟨k1, k2⟩ := one_box w #[.int .i64 1, .int .i64 0, .int .i64 0, .int .i64 8, .int .i64 0, .int .i64 0, .int .i64 0, .int .i64 0, .int .u64 0, .string ⟨#[]⟩] 25
  have HP := Lib.hid (And.intro k1 k2)
  have HT := Lib.hid (hT.keep k2)
  clear k1 k2
  generalize w.alloc _ = wa at *
  refine (pencode_any exP ex_wf wa HT.out).mono ?_
  rintro e w2 (⟨_, g, rfl, hB, hge, hg⟩ | ⟨h, _⟩)
  · rw [ex_enc] at hB ⊢
    have HQ := Lib.hid (And.intro (kept_row HP.out.1 hg (by simp)) (grown_trans HP.out.2 hg))
    have HB := Lib.hid hB
    clear hB hge hg HP
    go_wp2_with fail
    refine (pdecode_any [144, 0, 0, 0, 0, 0, 0, 109, 76, 0] (by intro x hx; simp at hx; omega) (some ⟨g, 0, none⟩) 10 (Nat.le_refl _) (fun _ => True) w2 (HB.out.rd _ trivial _)).mono ?_
    rintro e w3 ⟨rfl, hg⟩
    rw [ex_dec]
    have hgb := World.grownBy_alloc w3 (.cells #[.int .i64 1, .int .i64 0, .int .i64 0, .int .i64 8, .int .i64 0, .int .i64 0, .int .i64 0, .int .i64 0, .int .u64 0, .string ⟨#[]⟩] 25) none
    have HQ3 := Lib.hid (And.intro (kept_row HQ.out.1 (grown_trans hg hgb) (by simp)) (grown_trans HQ.out.2 (grown_trans hg hgb)))
    have hB3 := (HB.out.keep hg).keep hgb
    have b0 : (w3.alloc (.cells #[.int .i64 1, .int .i64 0, .int .i64 0, .int .i64 8, .int .i64 0, .int .i64 0, .int .i64 0, .int .i64 0, .int .u64 0, .string ⟨#[]⟩] 25)).cell? ⟨g, 0, none⟩ = some (.int .u8 144) := hB3.cell (j := 0) (by decide)
    have a0 : (w3.alloc (.cells #[.int .i64 1, .int .i64 0, .int .i64 0, .int .i64 8, .int .i64 0, .int .i64 0, .int .i64 0, .int .i64 0, .int .u64 0, .string ⟨#[]⟩] 25)).cell? ⟨w.heap.size, 0, none⟩ = some (.int .i64 1) := cell_of_row _ _ _ _ _ _ HQ3.out.1
    have a1 : (w3.alloc (.cells #[.int .i64 1, .int .i64 0, .int .i64 0, .int .i64 8, .int .i64 0, .int .i64 0, .int .i64 0, .int .i64 0, .int .u64 0, .string ⟨#[]⟩] 25)).cell? ⟨w.heap.size, 1, none⟩ = some (.int .i64 0) := cell_of_row _ _ _ _ _ _ HQ3.out.1
    have a2 : (w3.alloc (.cells #[.int .i64 1, .int .i64 0, .int .i64 0, .int .i64 8, .int .i64 0, .int .i64 0, .int .i64 0, .int .i64 0, .int .u64 0, .string ⟨#[]⟩] 25)).cell? ⟨w.heap.size, 2, none⟩ = some (.int .i64 0) := cell_of_row _ _ _ _ _ _ HQ3.out.1
    have a3 : (w3.alloc (.cells #[.int .i64 1, .int .i64 0, .int .i64 0, .int .i64 8, .int .i64 0, .int .i64 0, .int .i64 0, .int .i64 0, .int .u64 0, .string ⟨#[]⟩] 25)).cell? ⟨w.heap.size, 3, none⟩ = some (.int .i64 8) := cell_of_row _ _ _ _ _ _ HQ3.out.1
    have a4 : (w3.alloc (.cells #[.int .i64 1, .int .i64 0, .int .i64 0, .int .i64 8, .int .i64 0, .int .i64 0, .int .i64 0, .int .i64 0, .int .u64 0, .string ⟨#[]⟩] 25)).cell? ⟨w.heap.size, 4, none⟩ = some (.int .i64 0) := cell_of_row _ _ _ _ _ _ HQ3.out.1
    have a5 : (w3.alloc (.cells #[.int .i64 1, .int .i64 0, .int .i64 0, .int .i64 8, .int .i64 0, .int .i64 0, .int .i64 0, .int .i64 0, .int .u64 0, .string ⟨#[]⟩] 25)).cell? ⟨w.heap.size, 5, none⟩ = some (.int .i64 0) := cell_of_row _ _ _ _ _ _ HQ3.out.1
    have a6 : (w3.alloc (.cells #[.int .i64 1, .int .i64 0, .int .i64 0, .int .i64 8, .int .i64 0, .int .i64 0, .int .i64 0, .int .i64 0, .int .u64 0, .string ⟨#[]⟩] 25)).cell? ⟨w.heap.size, 6, none⟩ = some (.int .i64 0) := cell_of_row _ _ _ _ _ _ HQ3.out.1
    have a7 : (w3.alloc (.cells #[.int .i64 1, .int .i64 0, .int .i64 0, .int .i64 8, .int .i64 0, .int .i64 0, .int .i64 0, .int .i64 0, .int .u64 0, .string ⟨#[]⟩] 25)).cell? ⟨w.heap.size, 7, none⟩ = some (.int .i64 0) := cell_of_row _ _ _ _ _ _ HQ3.out.1
    have a8 : (w3.alloc (.cells #[.int .i64 1, .int .i64 0, .int .i64 0, .int .i64 8, .int .i64 0, .int .i64 0, .int .i64 0, .int .i64 0, .int .u64 0, .string ⟨#[]⟩] 25)).cell? ⟨w.heap.size, 8, none⟩ = some (.int .u64 0) := cell_of_row _ _ _ _ _ _ HQ3.out.1
    have a9 : (w3.alloc (.cells #[.int .i64 1, .int .i64 0, .int .i64 0, .int .i64 8, .int .i64 0, .int .i64 0, .int .i64 0, .int .i64 0, .int .u64 0, .string ⟨#[]⟩] 25)).cell? ⟨w.heap.size, 9, none⟩ = some (.string ⟨#[]⟩) := cell_of_row _ _ _ _ _ _ HQ3.out.1
    clear hg hgb hB3 HQ HB
    go_wp2_with fail
    refine (psize_any exP ex_wf _).mono ?_
    rintro e w5 ⟨rfl, hg⟩
    rw [ex_size]
    have GE := Lib.hid (grown_trans HQ3.out.2 hg)
    clear hg b0 a0 a1 a2 a3 a4 a5 a6 a7 a8 a9
    go_wp2_with fail
    go_ret
    exact ⟨rfl, GE.out⟩
  · rw [ex_valid] at h; cases h
end Go.Proofs.YtnfgkakhdgiepaaDoor

/- The tape's packets, also with a mistake. -/
namespace Go.Proofs.YtnfgkakhdgiepaaDoor
open Go.RowKit Bs
def AnyPacketPost (a : Nat) (w : World) (e : Ending) (w' : World) : Prop := ∃ P : Pk, e = .returned P.val ∧ P.Wf ∧ P.pay.size ≤ 100 ∧ St a w w'
/-- The packet's block and the result's, while a mistake is laid. -/
structure TK (a : Nat) (W : World) (B : Nat) (P : Pk) (w : World) : Prop where
  pb : w.heap[B]? = some (.cells (pcells P) 25 (0, 0))
  rb : w.heap[W.heap.size]? = some (.cells zpk 25 (0, 0))
  st : St a W w
  wf : P.Wf
  sm : P.pay.size ≤ 100
section
variable {a B : Nat} {W w w1 : World} {P P' : Pk}
set_option maxRecDepth 100000 in
theorem TK.tape (H : TK a W B P w) (ha : a < W.heap.size) (hB : W.heap.size < B) (g : St a w w1) : TK a W B P w1 :=
  ⟨kept_row H.pb g.1 (fun e => by have := Option.some.inj e; omega), kept_row H.rb g.1 (fun e => by have := Option.some.inj e; omega), H.st.trans g, H.wf, H.sm⟩
set_option maxRecDepth 100000 in
theorem TK.turn (H : TK a W B P w) (ha : a < W.heap.size) (hB : W.heap.size < B) {k : Nat} {v : Value} (h : (pcells P).setIfInBounds k v = pcells P') (hw : P'.Wf) (hs : P'.pay.size ≤ 100) : TK a W B P' (w.setCell ⟨B, k, none⟩ v) := by
  have j := grown_setCell w ⟨B, k, none⟩ v
  refine ⟨?_, kept_row H.rb j (fun e => by have : W.heap.size = B := Option.some.inj e; omega), H.st.store (b := B) j (by omega) ha, hw, hs⟩
  rw [← h]
  exact heap_setCell_same w _ k _ _ _ H.pb
set_option maxRecDepth 100000 in
theorem TK.at_mode (H : TK a W B P w) (ha : a < W.heap.size) (hB : W.heap.size < B) {x : Int} (hx : I64 x) : TK a W B { P with mode := x } (w.setCell ⟨B, 0, none⟩ (.int .i64 x)) :=
  H.turn ha hB rfl ⟨hx, H.wf.sub, H.wf.set, H.wf.len, H.wf.ttl, H.wf.ent, H.wf.ing, H.wf.pro, H.wf.bits, H.wf.pay⟩ H.sm
set_option maxRecDepth 100000 in
theorem TK.at_sub (H : TK a W B P w) (ha : a < W.heap.size) (hB : W.heap.size < B) {x : Int} (hx : I64 x) : TK a W B { P with sub := x } (w.setCell ⟨B, 1, none⟩ (.int .i64 x)) :=
  H.turn ha hB rfl ⟨H.wf.mode, hx, H.wf.set, H.wf.len, H.wf.ttl, H.wf.ent, H.wf.ing, H.wf.pro, H.wf.bits, H.wf.pay⟩ H.sm
set_option maxRecDepth 100000 in
theorem TK.at_set (H : TK a W B P w) (ha : a < W.heap.size) (hB : W.heap.size < B) {x : Int} (hx : I64 x) : TK a W B { P with set := x } (w.setCell ⟨B, 2, none⟩ (.int .i64 x)) :=
  H.turn ha hB rfl ⟨H.wf.mode, H.wf.sub, hx, H.wf.len, H.wf.ttl, H.wf.ent, H.wf.ing, H.wf.pro, H.wf.bits, H.wf.pay⟩ H.sm
set_option maxRecDepth 100000 in
theorem TK.at_len (H : TK a W B P w) (ha : a < W.heap.size) (hB : W.heap.size < B) {x : Int} (hx : I64 x) : TK a W B { P with len := x } (w.setCell ⟨B, 3, none⟩ (.int .i64 x)) :=
  H.turn ha hB rfl ⟨H.wf.mode, H.wf.sub, H.wf.set, hx, H.wf.ttl, H.wf.ent, H.wf.ing, H.wf.pro, H.wf.bits, H.wf.pay⟩ H.sm
set_option maxRecDepth 100000 in
theorem TK.at_ttl (H : TK a W B P w) (ha : a < W.heap.size) (hB : W.heap.size < B) {x : Int} (hx : I64 x) : TK a W B { P with ttl := x } (w.setCell ⟨B, 4, none⟩ (.int .i64 x)) :=
  H.turn ha hB rfl ⟨H.wf.mode, H.wf.sub, H.wf.set, H.wf.len, hx, H.wf.ent, H.wf.ing, H.wf.pro, H.wf.bits, H.wf.pay⟩ H.sm
set_option maxRecDepth 100000 in
theorem TK.at_ent (H : TK a W B P w) (ha : a < W.heap.size) (hB : W.heap.size < B) {x : Int} (hx : I64 x) : TK a W B { P with ent := x } (w.setCell ⟨B, 5, none⟩ (.int .i64 x)) :=
  H.turn ha hB rfl ⟨H.wf.mode, H.wf.sub, H.wf.set, H.wf.len, H.wf.ttl, hx, H.wf.ing, H.wf.pro, H.wf.bits, H.wf.pay⟩ H.sm
set_option maxRecDepth 100000 in
theorem TK.at_ing (H : TK a W B P w) (ha : a < W.heap.size) (hB : W.heap.size < B) {x : Int} (hx : I64 x) : TK a W B { P with ing := x } (w.setCell ⟨B, 6, none⟩ (.int .i64 x)) :=
  H.turn ha hB rfl ⟨H.wf.mode, H.wf.sub, H.wf.set, H.wf.len, H.wf.ttl, H.wf.ent, hx, H.wf.pro, H.wf.bits, H.wf.pay⟩ H.sm
set_option maxRecDepth 100000 in
theorem TK.at_pro (H : TK a W B P w) (ha : a < W.heap.size) (hB : W.heap.size < B) {x : Int} (hx : I64 x) : TK a W B { P with pro := x } (w.setCell ⟨B, 7, none⟩ (.int .i64 x)) :=
  H.turn ha hB rfl ⟨H.wf.mode, H.wf.sub, H.wf.set, H.wf.len, H.wf.ttl, H.wf.ent, H.wf.ing, hx, H.wf.bits, H.wf.pay⟩ H.sm
set_option maxRecDepth 100000 in
theorem TK.at_pay (H : TK a W B P w) (ha : a < W.heap.size) (hB : W.heap.size < B) {s : ByteArray} (hs : s.size ≤ 100) : TK a W B { P with pay := s } (w.setCell ⟨B, 9, none⟩ (.string s)) :=
  H.turn ha hB rfl ⟨H.wf.mode, H.wf.sub, H.wf.set, H.wf.len, H.wf.ttl, H.wf.ent, H.wf.ing, H.wf.pro, H.wf.bits, Nat.le_trans hs (by decide)⟩ hs
end
/-- How much the payload lacks. -/
def payLeft (w : World) (B : Nat) : Nat := match w.cell? ⟨B, 9, none⟩ with | some (.string s) => 62 - s.size | _ => 0
set_option maxRecDepth 100000 in
set_option maxHeartbeats 3200000 in
theorem packetN_any (a : Nat) (n : Int) (hn : 1 ≤ n) (hn2 : n ≤ 1000) (w : World) (hT : Tp w a) :
    Calls Tryd.prog 15 #[.pointer (some ⟨a, 0, none⟩), .int .i64 n] w fun e w' => AnyPacketPost a w e w' := by
  have ha := hT.lt
  obtain ⟨k1, k2⟩ := one_box w zpk 25
  have HB := Lib.hid k1
  have S0 : St a w (w.alloc (.cells zpk 25)) := ⟨grown_none k2 _, hT.keep k2⟩
  clear k1 k2
  unfold zpk at HB S0
  go_enter Tryd.func15, Tryd.ntmps15
  go_wp2_with fail
  generalize w.alloc _ = wa at *
  change Hid (wa.heap[w.heap.size]? = some (.cells zpk 25 (0, 0))) at HB
  refine (length_any a _ S0.2).mono ?_
  rintro e w1 ⟨len, rfl, hlen, hs1⟩
  have S1 := S0.trans hs1
  go_wp2_with fail
  refine (range_any a 1 3 (by decide) (by decide) (by decide) (by decide) _ S1.2).mono ?_
  rintro e w2 ⟨mode, rfl, hmode, hs2⟩
  go_wp2_with fail
  refine (range_any a 0 7 (by decide) (by decide) (by decide) (by decide) _ hs2.2).mono ?_
  rintro e w3 ⟨sub, rfl, hsub, hs3⟩
  go_wp2_with fail
  refine (pick_any (fun r => 0 ≤ r ∧ r ≤ 31) a _ 0 5 5 (by omega) (by omega) _ (hs3.2.alloc _) (among_list _ w3 a [0, 0, 1, 2, 31] _ _ hs3.2.lt rfl (by decide))).mono ?_
  rintro e w4 ⟨set, rfl, hset, hs4⟩
  go_wp2_with fail
  refine (pick_any (fun r => 0 ≤ r ∧ r ≤ 63) a _ 0 5 5 (by omega) (by omega) _ (hs4.2.alloc _) (among_list _ w4 a [0, 1, 2, 5, 63] _ _ hs4.2.lt rfl (by decide))).mono ?_
  rintro e w5 ⟨ttl, rfl, httl, hs5⟩
  go_wp2_with fail
  refine (next_any a 1024 (by unfold I64; omega) _ hs5.2).mono ?_
  rintro e w6 ⟨ent, rfl, hent, hs6⟩
  go_wp2_with fail
  refine (pick_any (fun r => 0 ≤ r ∧ r ≤ 256) a _ 0 5 5 (by omega) (by omega) _ (hs6.2.alloc _) (among_list _ w6 a [0, 1, 8, 255, 256] _ _ hs6.2.lt rfl (by decide))).mono ?_
  rintro e w7 ⟨ing, rfl, hing, hs7⟩
  go_wp2_with fail
  refine (next_any a 8 (by unfold I64; omega) _ hs7.2).mono ?_
  rintro e w8 ⟨pro, rfl, hpro, hs8⟩
  go_wp2_with fail
  refine (bits_any a len hlen _ hs8.2).mono ?_
  rintro e w9 ⟨bits, rfl, hbu, hbv, hs9⟩
  go_wp2_with fail
  refine (text_any a 6 (by decide) _ hs9.2).mono ?_
  rintro e w10 ⟨pay, rfl, hpay, hs10⟩
  have S' := ((((((((hs1.trans hs2).trans hs3).trans hs4.alloc_left).trans hs5.alloc_left).trans hs6).trans hs7.alloc_left).trans hs8).trans hs9).trans hs10
  have S := Lib.hid (S0.trans S')
  have HR := Lib.hid (kept_row HB.out S'.1 (fun e => by have := Option.some.inj e; omega))
  have hV : Hid (vpk ⟨mode, sub, set, len, ttl, ent, ing, pro, bits, pay⟩ = true ∧ (⟨mode, sub, set, len, ttl, ent, ing, pro, bits, pay⟩ : Pk).Wf) := by
    have r1 := hmode.1
    have r2 := hmode.2.1 (by decide)
    have r3 := hsub.1
    have r4 := hsub.2.1 (by decide)
    have r5 := hent.1
    have r6 := hent.2.1 (by decide)
    have r7 := hpro.1
    have r8 := hpro.2.1 (by decide)
    refine Lib.hid ⟨decide_eq_true ⟨⟨r1, r2⟩, ⟨r3, r4⟩, hset, httl, ⟨r5, by show ent ≤ 1023; omega⟩, hing, ⟨r7, by show pro ≤ 7; omega⟩, Nat.le_trans hpay (by decide), hbv⟩, ?_⟩
    have hl : I64 len := by rcases vl_cases hlen with h | h | h | h <;> rw [h] <;> (unfold I64; decide)
    obtain ⟨q1, q2⟩ := hset
    obtain ⟨q3, q4⟩ := httl
    obtain ⟨q5, q6⟩ := hing
    exact ⟨i64_small (x := mode) (by omega) (by omega), i64_small (x := sub) (by omega) (by omega), i64_small (x := set) (by omega) (by omega), hl, i64_small (x := ttl) (by omega) (by omega), i64_small (x := ent) (by omega) (by omega), i64_small (x := ing) (by omega) (by omega), i64_small (x := pro) (by omega) (by omega), hbu, Nat.le_trans hpay (by decide)⟩
  have g11 := World.grownBy_alloc w10 (.cells #[.int .i64 mode, .int .i64 sub, .int .i64 set, .int .i64 len, .int .i64 ttl, .int .i64 ent, .int .i64 ing, .int .i64 pro, .int .u64 (bits : Int), .string pay] 25) none
  have HR2 := Lib.hid (kept_row HR.out g11 (by simp))
  have S2 := Lib.hid (S.out.none_ g11)
  have K0 : Hid (TK a w w10.heap.size ⟨mode, sub, set, len, ttl, ent, ing, pro, bits, pay⟩ (w10.alloc (.cells #[.int .i64 mode, .int .i64 sub, .int .i64 set, .int .i64 len, .int .i64 ttl, .int .i64 ent, .int .i64 ing, .int .i64 pro, .int .u64 (bits : Int), .string pay] 25))) := Lib.hid ⟨heap_alloc_new w10 _, HR2.out, S2.out, hV.out.2, Nat.le_trans hpay (by decide)⟩
  have hB : w.heap.size < w10.heap.size := by have h := S.out.1.size; have h2 := World.lt_of_row' HR.out; omega
  have HBB := Lib.hid hB
  have HPY := Lib.hid hpay
  clear S' S HR HR2 S2 hV hB HB S0 S1 hs1 hs2 hs3 hs4 hs5 hs6 hs7 hs8 hs9 hs10 hmode hsub hset httl hent hing hpro hbu hbv hpay hlen g11
  go_upto_region 3 with fail
  generalize w10.alloc (.cells #[.int .i64 mode, .int .i64 sub, .int .i64 set, .int .i64 len, .int .i64 ttl, .int .i64 ent, .int .i64 ing, .int .i64 pro, .int .u64 (bits : Int), .string pay] 25) = w11 at *
  have hT11 := K0.out.st.2
  go_wp2_with fail
  refine (one_any a n (by unfold I64; omega) _ hT11).mono ?_
  rintro e w12 ⟨b, rfl, hs⟩
  have K1 := Lib.hid (K0.out.tape ha HBB.out hs)
  clear K0 hT11 hs
  go_upto_if 39 with fail
  go_cut [] from 40 to 96 (fun wx => ∃ P, Hid (TK a w w10.heap.size P wx))
  case first =>
    cases b with
    | false =>
      go_wp2_with fail
      go_meet
      exact ⟨_, K1⟩
    | true =>
      have hT12 := K1.out.st.2
      go_wp2_with fail
      refine (next_any a 9 (by unfold I64; omega) _ hT12).mono ?_
      rintro e w13 ⟨r, rfl, hr, hs⟩
      have K2 := Lib.hid (K1.out.tape ha HBB.out hs)
      clear K1 hT12 hs
      have hr9 : 0 ≤ r ∧ r < 9 := ⟨hr.1, hr.2.1 (by decide)⟩
      obtain ⟨p0, p1, p2, p3, p4, p5, p6, p7, p8, p9⟩ := p_facts K2.out.pb
      have hT13 := K2.out.st.2
      rcases (show r = 0 ∨ r = 1 ∨ r = 2 ∨ r = 3 ∨ r = 4 ∨ r = 5 ∨ r = 6 ∨ r = 7 ∨ r = 8 by omega) with rfl | rfl | rfl | rfl | rfl | rfl | rfl | rfl | rfl
      · go_wp2_with fail
        refine (wild_any a _ hT13).mono ?_
        rintro e w14 ⟨x, rfl, hx, hs⟩
        have K3 := Lib.hid (K2.out.tape ha HBB.out hs)
        have c0 : w14.cell? ⟨w10.heap.size, 0, none⟩ = some (.int .i64 mode) := cell_of_row _ _ _ _ _ _ K3.out.pb
        have c1 := frozen_of_row _ _ 0 _ _ K3.out.pb
        have K4 := Lib.hid (K3.out.at_mode ha HBB.out hx)
        clear K2 K3 hs p0 p1 p2 p3 p4 p5 p6 p7 p8 p9
        go_wp2_with fail
        go_meet
        exact ⟨_, K4⟩
      · go_wp2_with fail
        refine (wild_any a _ hT13).mono ?_
        rintro e w14 ⟨x, rfl, hx, hs⟩
        have K3 := Lib.hid (K2.out.tape ha HBB.out hs)
        have c0 : w14.cell? ⟨w10.heap.size, 1, none⟩ = some (.int .i64 sub) := cell_of_row _ _ _ _ _ _ K3.out.pb
        have c1 := frozen_of_row _ _ 1 _ _ K3.out.pb
        have K4 := Lib.hid (K3.out.at_sub ha HBB.out hx)
        clear K2 K3 hs p0 p1 p2 p3 p4 p5 p6 p7 p8 p9
        go_wp2_with fail
        go_meet
        exact ⟨_, K4⟩
      · go_wp2_with fail
        refine (wild_any a _ hT13).mono ?_
        rintro e w14 ⟨x, rfl, hx, hs⟩
        have K3 := Lib.hid (K2.out.tape ha HBB.out hs)
        have c0 : w14.cell? ⟨w10.heap.size, 2, none⟩ = some (.int .i64 set) := cell_of_row _ _ _ _ _ _ K3.out.pb
        have c1 := frozen_of_row _ _ 2 _ _ K3.out.pb
        have K4 := Lib.hid (K3.out.at_set ha HBB.out hx)
        clear K2 K3 hs p0 p1 p2 p3 p4 p5 p6 p7 p8 p9
        go_wp2_with fail
        go_meet
        exact ⟨_, K4⟩
      · go_wp2_with fail
        refine (pick_any (fun r => I64 r) a _ 0 8 8 (by omega) (by omega) _ (hT13.alloc _) (among_list _ w13 a [0, 8, 16, 24, 63, 64, 65, -8] _ _ hT13.lt rfl (by unfold I64; decide))).mono ?_
        rintro e w14 ⟨x, rfl, hx, hs0⟩
        have hs := hs0.alloc_left
        have K3 := Lib.hid (K2.out.tape ha HBB.out hs)
        have c0 : w14.cell? ⟨w10.heap.size, 3, none⟩ = some (.int .i64 len) := cell_of_row _ _ _ _ _ _ K3.out.pb
        have c1 := frozen_of_row _ _ 3 _ _ K3.out.pb
        have K4 := Lib.hid (K3.out.at_len ha HBB.out hx)
        clear K2 K3 hs hs0 p0 p1 p2 p3 p4 p5 p6 p7 p8 p9
        go_wp2_with fail
        go_meet
        exact ⟨_, K4⟩
      · go_wp2_with fail
        refine (wild_any a _ hT13).mono ?_
        rintro e w14 ⟨x, rfl, hx, hs⟩
        have K3 := Lib.hid (K2.out.tape ha HBB.out hs)
        have c0 : w14.cell? ⟨w10.heap.size, 4, none⟩ = some (.int .i64 ttl) := cell_of_row _ _ _ _ _ _ K3.out.pb
        have c1 := frozen_of_row _ _ 4 _ _ K3.out.pb
        have K4 := Lib.hid (K3.out.at_ttl ha HBB.out hx)
        clear K2 K3 hs p0 p1 p2 p3 p4 p5 p6 p7 p8 p9
        go_wp2_with fail
        go_meet
        exact ⟨_, K4⟩
      · go_wp2_with fail
        refine (wild_any a _ hT13).mono ?_
        rintro e w14 ⟨x, rfl, hx, hs⟩
        have K3 := Lib.hid (K2.out.tape ha HBB.out hs)
        have c0 : w14.cell? ⟨w10.heap.size, 5, none⟩ = some (.int .i64 ent) := cell_of_row _ _ _ _ _ _ K3.out.pb
        have c1 := frozen_of_row _ _ 5 _ _ K3.out.pb
        have K4 := Lib.hid (K3.out.at_ent ha HBB.out hx)
        clear K2 K3 hs p0 p1 p2 p3 p4 p5 p6 p7 p8 p9
        go_wp2_with fail
        go_meet
        exact ⟨_, K4⟩
      · go_wp2_with fail
        refine (wild_any a _ hT13).mono ?_
        rintro e w14 ⟨x, rfl, hx, hs⟩
        have K3 := Lib.hid (K2.out.tape ha HBB.out hs)
        have c0 : w14.cell? ⟨w10.heap.size, 6, none⟩ = some (.int .i64 ing) := cell_of_row _ _ _ _ _ _ K3.out.pb
        have c1 := frozen_of_row _ _ 6 _ _ K3.out.pb
        have K4 := Lib.hid (K3.out.at_ing ha HBB.out hx)
        clear K2 K3 hs p0 p1 p2 p3 p4 p5 p6 p7 p8 p9
        go_wp2_with fail
        go_meet
        exact ⟨_, K4⟩
      · go_wp2_with fail
        refine (wild_any a _ hT13).mono ?_
        rintro e w14 ⟨x, rfl, hx, hs⟩
        have K3 := Lib.hid (K2.out.tape ha HBB.out hs)
        have c0 : w14.cell? ⟨w10.heap.size, 7, none⟩ = some (.int .i64 pro) := cell_of_row _ _ _ _ _ _ K3.out.pb
        have c1 := frozen_of_row _ _ 7 _ _ K3.out.pb
        have K4 := Lib.hid (K3.out.at_pro ha HBB.out hx)
        clear K2 K3 hs p0 p1 p2 p3 p4 p5 p6 p7 p8 p9
        go_wp2_with fail
        go_meet
        exact ⟨_, K4⟩
      · go_wp2_with fail
        go_loopw [44] (fun _ wr => ∃ P : Pk, P.pay.size ≤ 64 ∧ Hid (TK a w w10.heap.size P wr)) (fun _ wr => payLeft wr w10.heap.size)
        case atStart => exact ⟨_, Nat.le_trans HPY.out (by decide), K2⟩
        case round =>
          obtain ⟨P, hP64, HK⟩ := hrel
          clear K2 p0 p1 p2 p3 p4 p5 p6 p7 p8 p9 hT13
          have c9 : wr.cell? ⟨w10.heap.size, 9, none⟩ = some (.string P.pay) := cell_of_row _ _ _ _ _ _ HK.out.pb
          have d9 := frozen_of_row _ _ 9 _ _ HK.out.pb
          by_cases hlt : P.pay.size < 62
          · have hsz : (P.pay ++ ⟨#[97, 98, 99]⟩ : ByteArray).size = P.pay.size + 3 := by rw [ByteArray.size_append]; rfl
            have K' := HK.out.at_pay ha HBB.out (s := P.pay ++ ⟨#[97, 98, 99]⟩) (by rw [hsz]; omega)
            have c9' : (wr.setCell ⟨w10.heap.size, 9, none⟩ (.string (P.pay ++ ⟨#[97, 98, 99]⟩))).cell? ⟨w10.heap.size, 9, none⟩ = some (.string (P.pay ++ ⟨#[97, 98, 99]⟩)) := cell_of_row _ _ _ _ _ _ K'.pb
            have H9 := Lib.hid (And.intro c9 (And.intro c9' hsz))
            have HK' := Lib.hid K'
            clear c9' hsz K'
            go_wp2_with fail
            go_roundw
            case rel => exact ⟨_, by show (P.pay ++ ⟨#[97, 98, 99]⟩ : ByteArray).size ≤ 64; rw [H9.out.2.2]; omega, HK'⟩
            case measure =>
              unfold payLeft
              rw [H9.out.1, H9.out.2.1]
              show 62 - (P.pay ++ ⟨#[97, 98, 99]⟩ : ByteArray).size < 62 - P.pay.size
              rw [H9.out.2.2]; omega
          · have hT14 := HK.out.st.2
            go_wp2_with fail
            go_region_law (first
              | (go_simp; go_at_call 62; refine (text_any a 4 (by decide) _ hT14.drew).mono ?_; rintro e w15 ⟨s, rfl, hs4, hs⟩; have K5 := Lib.hid (HK.out.tape ha HBB.out (w1 := w15) ⟨grown_trans (grown_drew (grown_refl wr _)) hs.1, hs.2⟩); have e9 : w15.cell? ⟨w10.heap.size, 9, none⟩ = some (.string P.pay) := cell_of_row _ _ _ _ _ _ K5.out.pb; have f9 := frozen_of_row _ _ 9 _ _ K5.out.pb; have K6 := Lib.hid (K5.out.at_pay ha HBB.out (s := P.pay ++ s) (by rw [ByteArray.size_append]; omega)); have hcat : ¬ 9223372036854775807 < P.pay.size + s.size := (by omega); clear hs))
            all_goals
              clear K5 c9 d9 e9 f9 hcat hs4
              go_wp2_with fail
              go_meet
              exact ⟨_, K6⟩
  case rest =>
    obtain ⟨P, HK⟩ := hcut
    obtain ⟨⟨r0, r1, r2, r3, r4, r5, r6, r7, r8, r9⟩, f0, f1, f2, f3, f4, f5, f6, f7, f8, f9⟩ := zp_cells HK.out.rb
    obtain ⟨p0, p1, p2, p3, p4, p5, p6, p7, p8, p9⟩ := p_facts HK.out.pb
    clear K1
    go_wp2_with fail
    refine bodyPost_ret (res_packet rfl _ _ w.heap.size _ rfl rfl (pput_row _ _ _ _ _ _ _ _ _ _ HK.out.rb)) rfl ?_
    exact ⟨P, rfl, HK.out.wf, HK.out.sm, HK.out.st.store (pput_grown _ w.heap.size _ _ _ _ _ _ _ _ _ _) (Nat.le_refl _) ha⟩
end Go.Proofs.YtnfgkakhdgiepaaDoor

/- A list of three packets that a statement draws, and its members. -/
namespace Go.Proofs.YtnfgkakhdgiepaaDoor
open Go.RowKit Bs
set_option maxRecDepth 100000 in
theorem ints_keep {w w1 : World} {v : Value} (h : IntsIn w v) (g : w.grownBy w1 none) : IntsIn w1 v := by
  obtain ⟨p, n, c, hv, h1, h2, h3⟩ := h
  refine ⟨p, n, c, hv, h1, h2, fun hn => ?_⟩
  obtain ⟨b, off, hp, hb, hx⟩ := h3 hn
  refine ⟨b, off, hp, Nat.lt_of_lt_of_le hb g.size, fun i hi => ?_⟩
  obtain ⟨x, hx1, hx2⟩ := hx i hi
  exact ⟨x, hx1, g.cell hx2 (by simp)⟩
set_option maxRecDepth 100000 in
theorem grown_undrew_some {a : Nat} {w w1 : World} (g : w.drew.grownBy w1 (some a)) : w.grownBy w1 (some a) := ⟨g.os, g.tape, g.output, g.size, g.block⟩
set_option maxRecDepth 100000 in
theorem St.tp {a : Nat} {w w1 : World} (h : St a w w1) : Tp w1 a := h.2
set_option maxRecDepth 100000 in
theorem St.gr {a : Nat} {w w1 : World} (h : St a w w1) : w.grownBy w1 (some a) := h.1
/-- A packet comes back, cell by cell. -/
def AggPost (a : Nat) (w : World) (e : Ending) (w' : World) : Prop := ∃ P : Pk, e = .returned (.agg #[.int .i64 P.mode, .int .i64 P.sub, .int .i64 P.set, .int .i64 P.len, .int .i64 P.ttl, .int .i64 P.ent, .int .i64 P.ing, .int .i64 P.pro, .int .u64 (P.bits : Int), .string P.pay]) ∧ P.Wf ∧ St a w w'
set_option maxRecDepth 100000 in
theorem packetN_agg (a : Nat) (n : Int) (hn : 1 ≤ n) (hn2 : n ≤ 1000) (w : World) (hT : Tp w a) :
    Calls Tryd.prog 15 #[.pointer (some ⟨a, 0, none⟩), .int .i64 n] w fun e w' => AggPost a w e w' := by
  refine (packetN_any a n hn hn2 w hT).mono ?_
  rintro e w' ⟨P, rfl, h1, _, h2⟩
  exact ⟨P, rfl, h1, h2⟩
set_option maxRecDepth 100000 in
theorem packet1_agg (a : Nat) (w : World) (hT : Tp w a) :
    Calls Tryd.prog 15 #[.pointer (some ⟨a, 0, none⟩), .int .i64 1] w fun e w' => AggPost a w e w' := packetN_agg a 1 (by decide) (by decide) w hT
set_option maxRecDepth 100000 in
theorem packet2_agg (a : Nat) (w : World) (hT : Tp w a) :
    Calls Tryd.prog 15 #[.pointer (some ⟨a, 0, none⟩), .int .i64 2] w fun e w' => AggPost a w e w' := packetN_agg a 2 (by decide) (by decide) w hT
set_option maxRecDepth 100000 in
theorem packet4_agg (a : Nat) (w : World) (hT : Tp w a) :
    Calls Tryd.prog 15 #[.pointer (some ⟨a, 0, none⟩), .int .i64 4] w fun e w' => AggPost a w e w' := packetN_agg a 4 (by decide) (by decide) w hT
set_option maxRecDepth 100000 in
theorem packet0_agg (a : Nat) (w : World) (hT : Tp w a) :
    Calls Tryd.prog 15 #[.pointer (some ⟨a, 0, none⟩), .int .i64 0] w fun e w' => AggPost a w e w' := by
  refine (packet0_any a w hT).mono ?_
  rintro e w' ⟨P, rfl, h1, _, h2⟩
  exact ⟨P, rfl, h1, h2⟩
set_option maxRecDepth 100000 in
theorem keep12 {w0 w' : World} {a b : Nat} {P : Pk} (h : w0.heap[b]? = some (.cells (pcells P) 25 (0, 0))) (hab : b ≠ a) (hT : Tp w' a) (hg : Hid (w0.grownBy w' (some a))) :
    w'.cell? ⟨b, 0, none⟩ = some (.int .i64 P.mode) ∧ w'.cell? ⟨b, 1, none⟩ = some (.int .i64 P.sub) ∧ w'.cell? ⟨b, 2, none⟩ = some (.int .i64 P.set) ∧ w'.cell? ⟨b, 3, none⟩ = some (.int .i64 P.len) ∧ w'.cell? ⟨b, 4, none⟩ = some (.int .i64 P.ttl) ∧ w'.cell? ⟨b, 5, none⟩ = some (.int .i64 P.ent) ∧ w'.cell? ⟨b, 6, none⟩ = some (.int .i64 P.ing) ∧ w'.cell? ⟨b, 7, none⟩ = some (.int .i64 P.pro) ∧ w'.cell? ⟨b, 8, none⟩ = some (.int .u64 (P.bits : Int)) ∧ w'.cell? ⟨b, 9, none⟩ = some (.string P.pay) ∧ Tp w' a ∧ Hid (w0.grownBy w' (some a)) := by
  obtain ⟨h0, h1, h2, h3, h4, h5, h6, h7, h8, h9⟩ := p_facts (kept_row h hg.out (fun e => hab (Option.some.inj e)))
  exact ⟨h0, h1, h2, h3, h4, h5, h6, h7, h8, h9, hT, hg⟩
/-- The cells of three packets. -/
def c30 (P Q R : Pk) : Array Value := #[.int .i64 P.mode, .int .i64 P.sub, .int .i64 P.set, .int .i64 P.len, .int .i64 P.ttl, .int .i64 P.ent, .int .i64 P.ing, .int .i64 P.pro, .int .u64 (P.bits : Int), .string P.pay,
  .int .i64 Q.mode, .int .i64 Q.sub, .int .i64 Q.set, .int .i64 Q.len, .int .i64 Q.ttl, .int .i64 Q.ent, .int .i64 Q.ing, .int .i64 Q.pro, .int .u64 (Q.bits : Int), .string Q.pay,
  .int .i64 R.mode, .int .i64 R.sub, .int .i64 R.set, .int .i64 R.len, .int .i64 R.ttl, .int .i64 R.ent, .int .i64 R.ing, .int .i64 R.pro, .int .u64 (R.bits : Int), .string R.pay]
def sel3 (P Q R : Pk) (j : Nat) : Pk := match j with | 0 => P | 1 => Q | _ => R
/-- Member j of the list. -/
def At10 (w : World) (b j : Nat) (P : Pk) : Prop :=
  w.cell? ⟨b, j * 10, none⟩ = some (.int .i64 P.mode) ∧ w.cell? ⟨b, j * 10 + 1, none⟩ = some (.int .i64 P.sub) ∧ w.cell? ⟨b, j * 10 + 2, none⟩ = some (.int .i64 P.set) ∧ w.cell? ⟨b, j * 10 + 3, none⟩ = some (.int .i64 P.len) ∧ w.cell? ⟨b, j * 10 + 4, none⟩ = some (.int .i64 P.ttl) ∧ w.cell? ⟨b, j * 10 + 5, none⟩ = some (.int .i64 P.ent) ∧ w.cell? ⟨b, j * 10 + 6, none⟩ = some (.int .i64 P.ing) ∧ w.cell? ⟨b, j * 10 + 7, none⟩ = some (.int .i64 P.pro) ∧ w.cell? ⟨b, j * 10 + 8, none⟩ = some (.int .u64 (P.bits : Int)) ∧ w.cell? ⟨b, j * 10 + 9, none⟩ = some (.string P.pay)
set_option maxRecDepth 100000 in
theorem c30_at {w : World} {b : Nat} {P Q R : Pk} (hr : w.heap[b]? = some (.cells (c30 P Q R) 25 (0, 0))) (j : Nat) (hj : j < 3) : At10 w b j (sel3 P Q R j) := by
  rcases (show j = 0 ∨ j = 1 ∨ j = 2 by omega) with rfl | rfl | rfl
  · exact ⟨cell_of_row _ _ _ _ _ _ hr, cell_of_row _ _ _ _ _ _ hr, cell_of_row _ _ _ _ _ _ hr, cell_of_row _ _ _ _ _ _ hr, cell_of_row _ _ _ _ _ _ hr, cell_of_row _ _ _ _ _ _ hr, cell_of_row _ _ _ _ _ _ hr, cell_of_row _ _ _ _ _ _ hr, cell_of_row _ _ _ _ _ _ hr, cell_of_row _ _ _ _ _ _ hr⟩
  · exact ⟨cell_of_row _ _ _ _ _ _ hr, cell_of_row _ _ _ _ _ _ hr, cell_of_row _ _ _ _ _ _ hr, cell_of_row _ _ _ _ _ _ hr, cell_of_row _ _ _ _ _ _ hr, cell_of_row _ _ _ _ _ _ hr, cell_of_row _ _ _ _ _ _ hr, cell_of_row _ _ _ _ _ _ hr, cell_of_row _ _ _ _ _ _ hr, cell_of_row _ _ _ _ _ _ hr⟩
  · exact ⟨cell_of_row _ _ _ _ _ _ hr, cell_of_row _ _ _ _ _ _ hr, cell_of_row _ _ _ _ _ _ hr, cell_of_row _ _ _ _ _ _ hr, cell_of_row _ _ _ _ _ _ hr, cell_of_row _ _ _ _ _ _ hr, cell_of_row _ _ _ _ _ _ hr, cell_of_row _ _ _ _ _ _ hr, cell_of_row _ _ _ _ _ _ hr, cell_of_row _ _ _ _ _ _ hr⟩
set_option maxRecDepth 100000 in
theorem At10.keep {w w' : World} {b j : Nat} {P : Pk} (h : At10 w b j P) (g : w.grownBy w' none) : At10 w' b j P := by
  obtain ⟨h0, h1, h2, h3, h4, h5, h6, h7, h8, h9⟩ := h
  exact ⟨g.cell h0 (by simp), g.cell h1 (by simp), g.cell h2 (by simp), g.cell h3 (by simp), g.cell h4 (by simp), g.cell h5 (by simp), g.cell h6 (by simp), g.cell h7 (by simp), g.cell h8 (by simp), g.cell h9 (by simp)⟩
set_option maxRecDepth 100000 in
theorem sel3_wf {P Q R : Pk} (h1 : P.Wf) (h2 : Q.Wf) (h3 : R.Wf) (j : Nat) : (sel3 P Q R j).Wf := by
  unfold sel3
  split <;> assumption
end Go.Proofs.YtnfgkakhdgiepaaDoor

/- packet: the reference's Valid, Size, Plane. -/
namespace Go.Proofs.YtnfgkakhdgiepaaDoor
open Go.RowKit Bs
def ins (n m : Int) : Bool := decide (0 ≤ n ∧ n ≤ m)
set_option maxRecDepth 100000 in
theorem inside_any (n m : Int) (w : World) :
    Calls Tryd.prog 64 #[.int .i64 n, .int .i64 m] w fun e w' => e = .returned (.bool (ins n m)) ∧ w = w' := by
  by_cases h : 0 ≤ n
  · by_cases h2 : n ≤ m
    · have hi : Hid (ins n m = true) := Lib.hid (decide_eq_true ⟨h, h2⟩)
      go_enter Tryd.func64, Tryd.ntmps64
      go_wp2
      all_goals (go_ret; exact ⟨by rw [hi.out]; first | rfl | (simp; omega), rfl⟩)
    · have hi : Hid (ins n m = false) := Lib.hid (decide_eq_false (by omega))
      go_enter Tryd.func64, Tryd.ntmps64
      go_wp2
      all_goals (go_ret; exact ⟨by rw [hi.out]; first | rfl | (simp; omega), rfl⟩)
  · have hi : Hid (ins n m = false) := Lib.hid (decide_eq_false (by omega))
    go_enter Tryd.func64, Tryd.ntmps64
    go_wp2
    all_goals (go_ret; exact ⟨by rw [hi.out]; first | rfl | (simp; omega), rfl⟩)
set_option maxRecDepth 100000 in
theorem vpk_iff (P : Pk) : vpk P = (decide (1 ≤ P.mode) && (decide (P.mode ≤ 3) && (ins P.sub 7 && (ins P.set 31 && (vb P.bits P.len && (ins P.ttl 63 && (ins P.ent 1023 && (ins P.ing 256 && (ins P.pro 7 && decide (P.pay.size ≤ 64)))))))))) := by
  unfold vpk ins
  rw [Bool.eq_iff_iff]
  simp only [decide_eq_true_eq, Bool.and_eq_true]
  constructor
  · rintro ⟨⟨h1, h2⟩, h3, h4, h5, h6, h7, h8, h9, h10⟩
    exact ⟨h1, h2, h3, h4, h10, h5, h6, h7, h8, h9⟩
  · rintro ⟨h1, h2, h3, h4, h10, h5, h6, h7, h8, h9⟩
    exact ⟨⟨h1, h2⟩, h3, h4, h5, h6, h7, h8, h9, h10⟩
set_option maxRecDepth 100000 in
set_option maxHeartbeats 3200000 in
theorem rvalid_any (P : Pk) (hP : P.Wf) (w : World) :
    Calls Tryd.prog 17 #[P.val] w fun e w' => e = .returned (.bool (vpk P)) ∧ w.grownBy w' none := by
  have hval : P.val = .agg #[.int .i64 P.mode, .int .i64 P.sub, .int .i64 P.set, .int .i64 P.len, .int .i64 P.ttl, .int .i64 P.ent, .int .i64 P.ing, .int .i64 P.pro, .int .u64 (P.bits : Int), .string P.pay] := rfl
  rw [hval]
  go_enter Tryd.func17, Tryd.ntmps17
  obtain ⟨k1, k2⟩ := one_box w (pcells P) 25
  have HA := Lib.hid (And.intro k1 k2)
  unfold pcells at HA
  clear k1 k2
  by_cases hs : P.pay.size ≤ 64
  · have hsi : ((P.pay.size : Nat) : Int) ≤ 64 := by omega
    go_wp2_with (first
      | (go_at_call 64; refine (inside_any _ _ _).mono ?_; rintro e w' ⟨rfl, rfl⟩)
      | (go_at_call 65; refine (bvalidr_any P.bits P.len hP.bits _).mono ?_; rintro e w' ⟨rfl, rfl⟩))
    all_goals
      go_ret
      refine ⟨?_, HA.out.2⟩
      first
        | (rw [show vpk P = false by (rw [vpk_iff]; first | (simp [*]; done) | (rw [decide_eq_false (show ¬ 1 ≤ P.mode by omega)]; rfl) | (rw [decide_eq_false (show ¬ P.mode ≤ 3 by omega), Bool.false_and, Bool.and_false]))]; rfl)
        | (rw [show vpk P = true by rw [vpk_iff]; simp [*]]; rfl)
  · have hsi : ¬ ((P.pay.size : Nat) : Int) ≤ 64 := by omega
    go_wp2_with (first
      | (go_at_call 64; refine (inside_any _ _ _).mono ?_; rintro e w' ⟨rfl, rfl⟩)
      | (go_at_call 65; refine (bvalidr_any P.bits P.len hP.bits _).mono ?_; rintro e w' ⟨rfl, rfl⟩))
    all_goals
      go_ret
      refine ⟨?_, HA.out.2⟩
      first
        | (rw [show vpk P = false by (rw [vpk_iff]; first | (simp [*]; done) | (rw [decide_eq_false (show ¬ 1 ≤ P.mode by omega)]; rfl) | (rw [decide_eq_false (show ¬ P.mode ≤ 3 by omega), Bool.false_and, Bool.and_false]))]; rfl)
        | (rw [show vpk P = false by (rw [vpk_iff]; simp [*]), decide_eq_false (show ¬ ((P.pay.size : Nat) : Int) ≤ 64 by omega)]; rfl)
set_option maxRecDepth 100000 in
theorem rsz_any (n m : Nat) (hn : n ≤ 10000) (hm : m ≤ 1000) (w : World) :
    Calls Tryd.prog 67 #[.int .i64 (n : Int), .int .i64 (m : Int)] w fun e w' => e = .returned (.int .i64 (((49 + n + 8 * m + 16 + 7) / 8 : Nat) : Int)) ∧ w = w' := by
  go_enter Tryd.func67, Tryd.ntmps67
  go_wp2
  all_goals (go_ret; exact ⟨by go_num, rfl⟩)
end Go.Proofs.YtnfgkakhdgiepaaDoor

/- packet: the reference's Size and Plane. -/
namespace Go.Proofs.YtnfgkakhdgiepaaDoor
open Go.RowKit Bs
set_option maxRecDepth 100000 in
set_option maxHeartbeats 3200000 in
theorem rsize_any (P : Pk) (hP : P.Wf) (w : World) :
    Calls Tryd.prog 19 #[P.val] w fun e w' => e = .returned (.int .i64 ((sizeV P : Nat) : Int)) ∧ w.grownBy w' none := by
  have hval : P.val = .agg #[.int .i64 P.mode, .int .i64 P.sub, .int .i64 P.set, .int .i64 P.len, .int .i64 P.ttl, .int .i64 P.ent, .int .i64 P.ing, .int .i64 P.pro, .int .u64 (P.bits : Int), .string P.pay] := rfl
  rw [hval]
  go_enter Tryd.func19, Tryd.ntmps19
  go_wp2_with fail
  obtain ⟨k1, k2⟩ := one_box w (pcells P) 25
  have HP := Lib.hid (And.intro k1 k2)
  clear k1 k2
  unfold pcells at HP
  generalize w.alloc _ = wa at *
  change Hid (wa.heap[w.heap.size]? = some (.cells (pcells P) 25 (0, 0)) ∧ w.grownBy wa none) at HP
  rw [← hval]
  refine (rvalid_any P hP _).mono ?_
  rintro e w1 ⟨rfl, hg⟩
  have HQ := Lib.hid (And.intro (kept_row HP.out.1 hg (by simp)) (grown_trans HP.out.2 hg))
  clear hg HP
  by_cases hv : vpk P = true
  · have hE : Hid (sizeV P = (49 + P.len.toNat + 8 * P.pay.size + 16 + 7) / 8) := Lib.hid (by unfold sizeV; rw [if_pos hv])
    obtain ⟨hn, hn2⟩ := vpk_len hv
    have hp := (vpk_parts hv).2.2.2.2.2.2.2.1
    have HN := Lib.hid hn
    rw [hv]
    clear hv hn
    obtain ⟨_, _, _, a3, _, _, _, _, _, a9⟩ := p_facts HQ.out.1
    go_wp2_with fail
    rw [HN.out]
    refine (rsz_any P.len.toNat P.pay.size (by omega) (by omega) _).mono ?_
    rintro e w' ⟨rfl, rfl⟩
    rw [← hE.out]
    go_wp2_with fail
    go_ret
    exact ⟨rfl, HQ.out.2⟩
  · have hf : vpk P = false := by simpa using hv
    have hE : Hid (sizeV P = 0) := Lib.hid (by unfold sizeV; rw [if_neg hv])
    rw [hf]
    clear hf hv
    go_wp2_with fail
    go_ret
    exact ⟨by rw [hE.out]; rfl, HQ.out.2⟩
set_option maxRecDepth 100000 in
theorem rplane_any (P : Pk) (hP : P.Wf) (w : World) :
    Calls Tryd.prog 21 #[P.val] w fun e w' => e = .returned (.int .i64 (planeV P)) ∧ w.grownBy w' none := by
  have hval : P.val = .agg #[.int .i64 P.mode, .int .i64 P.sub, .int .i64 P.set, .int .i64 P.len, .int .i64 P.ttl, .int .i64 P.ent, .int .i64 P.ing, .int .i64 P.pro, .int .u64 (P.bits : Int), .string P.pay] := rfl
  rw [hval]
  go_enter Tryd.func21, Tryd.ntmps21
  go_wp2_with fail
  obtain ⟨k1, k2⟩ := one_box w (pcells P) 25
  have HP := Lib.hid (And.intro k1 k2)
  clear k1 k2
  unfold pcells at HP
  generalize w.alloc _ = wa at *
  change Hid (wa.heap[w.heap.size]? = some (.cells (pcells P) 25 (0, 0)) ∧ w.grownBy wa none) at HP
  rw [← hval]
  refine (rvalid_any P hP _).mono ?_
  rintro e w1 ⟨rfl, hg⟩
  have HQ := Lib.hid (And.intro (kept_row HP.out.1 hg (by simp)) (grown_trans HP.out.2 hg))
  clear hg HP
  by_cases hv : vpk P = true
  · have hE : Hid (planeV P = P.ent % 8) := Lib.hid (by unfold planeV; rw [if_pos hv])
    have he := (vpk_parts hv).2.2.2.2.1
    obtain ⟨he1, he2⟩ := he
    rw [hv]
    clear hv
    obtain ⟨_, _, _, _, _, a5, _⟩ := p_facts HQ.out.1
    go_wp2_with fail
    go_ret
    exact ⟨by rw [hE.out]; rfl, HQ.out.2⟩
  · have hf : vpk P = false := by simpa using hv
    have hE : Hid (planeV P = 0) := Lib.hid (by unfold planeV; rw [if_neg hv])
    rw [hf]
    clear hf hv
    go_wp2_with fail
    go_ret
    exact ⟨by rw [hE.out]; rfl, HQ.out.2⟩
end Go.Proofs.YtnfgkakhdgiepaaDoor

/- The tape's orders. -/
namespace Go.Proofs.YtnfgkakhdgiepaaDoor
open Go.RowKit Bs
/-- An order of the first numbers. -/
def Ord (l : List Nat) (i : Nat) : Prop := l.length = i ∧ l.Nodup ∧ ∀ x ∈ l, x < i
set_option maxRecDepth 100000 in
theorem ord_next {l : List Nat} {i k : Nat} (h : Ord l i) : Ord (l.take k ++ [i] ++ l.drop k) (i + 1) := by
  obtain ⟨h1, h2, h3⟩ := h
  refine ⟨?_, ?_, ?_⟩
  · simp; omega
  · have e : (l.take k ++ [i] ++ l.drop k).Perm (i :: l) := by
      rw [List.append_assoc]
      have e2 : (l.take k ++ ([i] ++ l.drop k)).Perm (([i] ++ l.drop k) ++ l.take k) := List.perm_append_comm
      refine e2.trans ?_
      rw [List.append_assoc]
      show (i :: (l.drop k ++ l.take k)).Perm (i :: l)
      refine List.Perm.cons i ?_
      refine List.perm_append_comm.trans ?_
      rw [List.take_append_drop]
    rw [e.nodup_iff, List.nodup_cons]
    exact ⟨fun hm => by have := h3 i hm; omega, h2⟩
  · intro x hx
    rw [List.mem_append, List.mem_append] at hx
    rcases hx with (hx | hx) | hx
    · have := h3 x (List.mem_of_mem_take hx); omega
    · have : x = i := by simpa using hx
      omega
    · have := h3 x (List.mem_of_mem_drop hx); omega
/-- The slice v is an order of the first i numbers, in a row of the call's own. -/
def OrdRel (a : Nat) (W : World) (i : Nat) (v : Value) (w' : World) : Prop := ∃ l, Ord l i ∧ w'.ownsRow W.heap.size 3 1 v i (l.map zv) ∧ (i = 0 → v = .slice none 0 0) ∧ St a W w'
def OrdPost (a : Nat) (n : Nat) (W : World) (e : Ending) (w' : World) : Prop := ∃ v, e = .returned v ∧ OrdRel a W n v w'
set_option maxRecDepth 100000 in
set_option maxHeartbeats 3200000 in
theorem order_any (a n : Nat) (hn : n ≤ 1000) (w : World) (hT : Tp w a) :
    Calls Tryd.prog 28 #[.pointer (some ⟨a, 0, none⟩), .int .i64 (n : Int)] w fun e w' => OrdPost a n w e w' := by
  have ha := hT.lt
  have hS0 : Hid (OrdRel a w 0 (.slice none 0 0) w) := Lib.hid ⟨[], ⟨rfl, List.nodup_nil, fun x hx => by cases hx⟩, World.ownsRow_nil _ _ _ _, fun _ => rfl, grown_refl _ _, hT⟩
  clear hT
  go_enter Tryd.func28, Tryd.ntmps28
  go_wp2_with fail
  go_loopw [5, 6] (fun v i wr => ∃ j : Nat, j ≤ n ∧ i = .int .i64 (j : Int) ∧ OrdRel a w j v wr) (fun _ i _ => (n - (intOf i).toNat))
  case atStart => exact ⟨0, Nat.zero_le _, rfl, hS0.out⟩
  case round =>
    obtain ⟨j, hj, rfl, hR⟩ := hrel
    have HR := Lib.hid hR
    clear hR hS0
    by_cases hlt : j < n
    · obtain ⟨l, hO, hown, hv0, hSt⟩ := HR.out
      have HO := Lib.hid hO
      have hT := hSt.2
      have HOWN := Lib.hid hown
      have HST := Lib.hid hSt
      clear hO hown hSt HR
      go_wp2_with fail
      refine (next_any a ((j : Int) + 1) (by unfold I64; omega) _ hT).mono ?_
      rintro e w3 ⟨r, rfl, hr, hs⟩
      obtain ⟨k, rfl⟩ := Int.eq_ofNat_of_zero_le hr.1
      have hkj : k ≤ j := by have := hr.2.1 (by omega); omega
      have HS3 := Lib.hid (HST.out.trans hs)
      have HOWN3 := Lib.hid (own_kept ha HOWN.out hs.1)
      clear hr hs hT HST HOWN
      by_cases hj0 : j = 0
      · subst hj0
        obtain rfl : k = 0 := by omega
        obtain rfl := hv0 rfl
        have hl : l = [] := List.eq_nil_of_length_eq_zero HO.out.1
        clear hv0
        obtain ⟨i0, hi, hz0, hz1, hz2⟩ := info_parts info_int
        have hsz3 := Lib.hid HS3.out.1.size
        go_wp2_with (first
          | (at_builtin; refine wpList_append_own_none rfl _ _ 22 rfl w3.heap.size 3 i0 1 Tryd.underlying22 hi (.slice none 0 0) 0 [] rfl (World.ownsRow_nil _ _ _ _) rfl ?_)
          | (at_builtin; refine wpList_append_ints rfl _ _ rfl w3.heap.size (.slice none 0 0) 0 [] rfl (World.ownsRow_nil _ _ _ _) (some ⟨w3.heap.size, 0, none⟩) 1 1 [0] rfl rfl (by intro h; cases h) (by intro ad h; obtain rfl := Option.some.inj h; exact cell_one _ _ _) (by simp) (by simp) ?_; intro v2 w5 hown2 hg2; have HOWN2 := Lib.hid hown2; have HG2 := Lib.hid (grown_trans (World.grownBy_alloc w3 _ none) hg2); clear hown2 hg2)
          | (at_builtin; refine wpList_append_own_none rfl _ _ 22 rfl w3.heap.size 3 i0 1 Tryd.underlying22 hi v2 1 [zv 0] rfl HOWN2.out rfl ?_))
        go_roundw
        case rel =>
          refine ⟨1, by omega, rfl, [0], ⟨rfl, by simp, by simp⟩, ?_, by omega, ?_⟩
          · exact HOWN2.out.mono hsz3.out
          · exact ⟨grown_trans HS3.out.1 (grown_none HG2.out _), HS3.out.2.keep HG2.out⟩
        case measure => simp [intOf]; omega
      · have hj1 : 0 < j := by omega
        obtain ⟨g, cap, rfl, hgb⟩ := own_form HOWN3.out hj1
        obtain ⟨hcap1, hcap2⟩ := own_cap HOWN3.out
        have hcap3 : cap ≤ 9223372036854775807 := by unfold maxLen at hcap2; omega
        have hgl := (HOWN3.out.lt g rfl).2
        have hll := HO.out.1
        have HLL := Lib.hid hll
        have hkc : k ≤ cap := by omega
        have hkl : (l.take k).length = k := by rw [List.length_take]; omega
        have hdl : (l.drop k).length = j - k := by rw [List.length_drop]; omega
        have HKL := Lib.hid hkl
        have HDL := Lib.hid hdl
        have hj9 : j ≤ 1000 := by omega
        have hsz3 := Lib.hid HS3.out.1.size
        have N1 : Hid (∀ ad, some (⟨g, 0, none⟩ : Addr) = some ad → ∀ i u, ((l.take k).map zv)[i]? = some u → w3.cell? (ad.add i) = some u) := by
          refine Lib.hid ?_
          intro ad h i u hu
          obtain rfl := Option.some.inj h
          refine HOWN3.out.cells rfl i u ?_
          rw [List.map_take, List.getElem?_take] at hu
          split at hu
          · exact hu
          · cases hu
        clear hll hkl hdl hv0 hcap2
        generalize hT1 : l.take k = t1 at *
        generalize hT2 : l.drop k = t2 at *
        have HT1 := Lib.hid hT1
        have HT2 := Lib.hid hT2
        clear hT1
        by_cases hkj : k < j
        · have hkcap : k < cap := by omega
          have news : Hid (∀ (W : World) c, W.ownsRow w.heap.size 3 1 (.slice (some ⟨g, 0, none⟩) j c) j (l.map zv) → ∀ i u, (t2.map zv)[i]? = some u → W.cell? ⟨g, k + i, none⟩ = some u) := by
            refine Lib.hid ?_
            intro W c h i u hu
            rw [← hT2, List.map_drop, List.getElem?_drop] at hu
            have := h.cells rfl (k + i) u hu
            rw [add_plain, Nat.zero_add] at this
            exact this
          clear hT2
          go_wp2_with (first
            | (at_builtin; refine wpList_append_ints rfl _ _ rfl w3.heap.size (.slice none 0 0) 0 [] rfl (World.ownsRow_nil _ _ _ _) (some ⟨g, 0, none⟩) k cap t1 rfl HKL.out.symm (by intro h; cases h) N1.out (by rw [HKL.out]; omega) (Nat.le_refl _) ?_; intro v1 w4 hown1 hg1; rw [Nat.zero_add, List.nil_append, HKL.out] at hown1; have HOWN1 := Lib.hid hown1; have HO4 := Lib.hid (own_apart HOWN3.out (World.ownsRow_nil w3 w3.heap.size 3 1) hgl hg1); have HS4 := Lib.hid (HS3.out.own_grow (World.ownsRow_nil w3 w3.heap.size 3 1) hsz3.out ha hg1); have HZ4 := Lib.hid hg1.size; clear hown1 hg1)
            | (at_builtin; refine wpList_append_ints rfl _ _ rfl w3.heap.size v1 k t1 rfl (HOWN1.out.alloc _) (some ⟨w4.heap.size, 0, none⟩) 1 1 [j] rfl rfl (by intro h; cases h) (by intro ad h; obtain rfl := Option.some.inj h; exact cell_one _ _ _) (by simp; omega) (by have := HZ4.out; simp; omega) ?_; intro v2 w5 hown2 hg2; have HOWN2 : Hid (w5.ownsRow w3.heap.size 3 1 v2 (k + 1) ((t1 ++ [j]).map zv)) := Lib.hid hown2; have HO5 := Lib.hid (own_apart (HO4.out.alloc _) (HOWN1.out.alloc _) hgl hg2); have HS5 := Lib.hid ((HS4.out.none_ (World.grownBy_alloc w4 _ none)).own_grow (HOWN1.out.alloc _) hsz3.out ha hg2); have HZ5 : Hid (w3.heap.size ≤ w5.heap.size) := Lib.hid (Nat.le_trans HZ4.out (Nat.le_trans (by simp) hg2.size)); clear hown2 hg2)
            | (at_builtin; refine wpList_append_ints rfl _ _ rfl w3.heap.size v2 (k + 1) (t1 ++ [j]) rfl HOWN2.out _ _ _ t2 rfl (by have := HDL.out; omega) (by intro h; cases h) (by intro ad h; obtain rfl := Option.some.inj h; intro i u hu; rw [add_plain]; exact news.out w5 cap HO5.out i u hu) (by have := HDL.out; omega) HZ5.out ?_; intro v3 w6 hown3 hg3; have HOWN6 := Lib.hid hown3; have HS6 := Lib.hid (HS5.out.own_grow HOWN2.out hsz3.out ha hg3); clear hown3 hg3))
          go_roundw
          case rel =>
            refine ⟨j + 1, by omega, by go_num, l.take k ++ [j] ++ l.drop k, ord_next HO.out, ?_, by omega, HS6.out⟩
            have h6 := HOWN6.out.mono hsz3.out
            rw [← HT1.out, ← HT2.out, show k + 1 + (l.drop k).length = j + 1 by rw [List.length_drop, HLL.out]; omega] at h6
            exact h6
          case measure => simp [intOf]; omega
        · obtain rfl : k = j := by omega
          have ht2 : t2 = [] := by
            rw [← hT2]
            exact List.drop_of_length_le (Nat.le_of_eq HLL.out)
          clear hT2
          have HN2 : Hid (∀ (i : Nat) (u : Value), (t2.map zv)[i]? = some u → False) := Lib.hid (by intro i u hu; rw [ht2] at hu; simp at hu)
          clear ht2
          by_cases hcj : k = cap
          · subst hcj
            go_wp2_with (first
              | (at_builtin; refine wpList_append_ints rfl _ _ rfl w3.heap.size (.slice none 0 0) 0 [] rfl (World.ownsRow_nil _ _ _ _) (some ⟨g, 0, none⟩) k k t1 rfl HKL.out.symm (by intro h; cases h) N1.out (by rw [HKL.out]; omega) (Nat.le_refl _) ?_; intro v1 w4 hown1 hg1; rw [Nat.zero_add, List.nil_append, HKL.out] at hown1; have HOWN1 := Lib.hid hown1; have HO4 := Lib.hid (own_apart HOWN3.out (World.ownsRow_nil w3 w3.heap.size 3 1) hgl hg1); have HS4 := Lib.hid (HS3.out.own_grow (World.ownsRow_nil w3 w3.heap.size 3 1) hsz3.out ha hg1); have HZ4 := Lib.hid hg1.size; clear hown1 hg1)
              | (at_builtin; refine wpList_append_ints rfl _ _ rfl w3.heap.size v1 k t1 rfl (HOWN1.out.alloc _) (some ⟨w4.heap.size, 0, none⟩) 1 1 [k] rfl rfl (by intro h; cases h) (by intro ad h; obtain rfl := Option.some.inj h; exact cell_one _ _ _) (by simp; omega) (by have := HZ4.out; simp; omega) ?_; intro v2 w5 hown2 hg2; have HOWN2 : Hid (w5.ownsRow w3.heap.size 3 1 v2 (k + 1) ((t1 ++ [k]).map zv)) := Lib.hid hown2; have HO5 := Lib.hid (own_apart (HO4.out.alloc _) (HOWN1.out.alloc _) hgl hg2); have HS5 := Lib.hid ((HS4.out.none_ (World.grownBy_alloc w4 _ none)).own_grow (HOWN1.out.alloc _) hsz3.out ha hg2); have HZ5 : Hid (w3.heap.size ≤ w5.heap.size) := Lib.hid (Nat.le_trans HZ4.out (Nat.le_trans (by simp) hg2.size)); clear hown2 hg2)
              | (at_builtin; refine wpList_append_ints rfl _ _ rfl w3.heap.size v2 (k + 1) (t1 ++ [k]) rfl HOWN2.out _ _ _ t2 rfl (by have := HDL.out; omega) (by intro h; cases h) (by intro ad h i u hu; exact (HN2.out i u hu).elim) (by have := HDL.out; omega) HZ5.out ?_; intro v3 w6 hown3 hg3; have HOWN6 := Lib.hid hown3; have HS6 := Lib.hid (HS5.out.own_grow HOWN2.out hsz3.out ha hg3); clear hown3 hg3))
            go_roundw
            case rel =>
              refine ⟨k + 1, by omega, by go_num, l.take k ++ [k] ++ l.drop k, ord_next HO.out, ?_, by omega, HS6.out⟩
              have h6 := HOWN6.out.mono hsz3.out
              rw [← HT1.out, ← HT2.out, show k + 1 + (l.drop k).length = k + 1 by rw [List.length_drop, HLL.out]; omega] at h6
              exact h6
            case measure => simp [intOf]; omega
          · have hkcap : k < cap := by omega
            go_wp2_with (first
              | (at_builtin; refine wpList_append_ints rfl _ _ rfl w3.heap.size (.slice none 0 0) 0 [] rfl (World.ownsRow_nil _ _ _ _) (some ⟨g, 0, none⟩) k cap t1 rfl HKL.out.symm (by intro h; cases h) N1.out (by rw [HKL.out]; omega) (Nat.le_refl _) ?_; intro v1 w4 hown1 hg1; rw [Nat.zero_add, List.nil_append, HKL.out] at hown1; have HOWN1 := Lib.hid hown1; have HO4 := Lib.hid (own_apart HOWN3.out (World.ownsRow_nil w3 w3.heap.size 3 1) hgl hg1); have HS4 := Lib.hid (HS3.out.own_grow (World.ownsRow_nil w3 w3.heap.size 3 1) hsz3.out ha hg1); have HZ4 := Lib.hid hg1.size; clear hown1 hg1)
              | (at_builtin; refine wpList_append_ints rfl _ _ rfl w3.heap.size v1 k t1 rfl (HOWN1.out.alloc _) (some ⟨w4.heap.size, 0, none⟩) 1 1 [k] rfl rfl (by intro h; cases h) (by intro ad h; obtain rfl := Option.some.inj h; exact cell_one _ _ _) (by simp; omega) (by have := HZ4.out; simp; omega) ?_; intro v2 w5 hown2 hg2; have HOWN2 : Hid (w5.ownsRow w3.heap.size 3 1 v2 (k + 1) ((t1 ++ [k]).map zv)) := Lib.hid hown2; have HO5 := Lib.hid (own_apart (HO4.out.alloc _) (HOWN1.out.alloc _) hgl hg2); have HS5 := Lib.hid ((HS4.out.none_ (World.grownBy_alloc w4 _ none)).own_grow (HOWN1.out.alloc _) hsz3.out ha hg2); have HZ5 : Hid (w3.heap.size ≤ w5.heap.size) := Lib.hid (Nat.le_trans HZ4.out (Nat.le_trans (by simp) hg2.size)); clear hown2 hg2)
              | (at_builtin; refine wpList_append_ints rfl _ _ rfl w3.heap.size v2 (k + 1) (t1 ++ [k]) rfl HOWN2.out _ _ _ t2 rfl (by have := HDL.out; omega) (by intro h; cases h) (by intro ad h i u hu; exact (HN2.out i u hu).elim) (by have := HDL.out; omega) HZ5.out ?_; intro v3 w6 hown3 hg3; have HOWN6 := Lib.hid hown3; have HS6 := Lib.hid (HS5.out.own_grow HOWN2.out hsz3.out ha hg3); clear hown3 hg3))
            go_roundw
            case rel =>
              refine ⟨k + 1, by omega, by go_num, l.take k ++ [k] ++ l.drop k, ord_next HO.out, ?_, by omega, HS6.out⟩
              have h6 := HOWN6.out.mono hsz3.out
              rw [← HT1.out, ← HT2.out, show k + 1 + (l.drop k).length = k + 1 by rw [List.length_drop, HLL.out]; omega] at h6
              exact h6
            case measure => simp [intOf]; omega
    · obtain rfl : j = n := by omega
      go_wp2_with fail
      go_ret
      exact ⟨_, rfl, HR.out⟩
end Go.Proofs.YtnfgkakhdgiepaaDoor

/- A bit of a stream is turned. -/
namespace Go.Proofs.YtnfgkakhdgiepaaDoor
open Go.RowKit Bs
/-- The bytes with bit a turned. -/
def flp (l : List Nat) (a : Nat) : List Nat := l.set (a / 8) (l.getD (a / 8) 0 ^^^ 2 ^ (7 - a % 8))
set_option maxRecDepth 100000 in
theorem flp_len (l : List Nat) (a : Nat) : (flp l a).length = l.length := by unfold flp; rw [List.length_set]
set_option maxRecDepth 100000 in
theorem flp_by {l : List Nat} {a : Nat} (h : By l) (ha : a / 8 < l.length) : By (flp l a) := by
  intro x hx
  rcases List.mem_or_eq_of_mem_set hx with hx | rfl
  · exact h x hx
  · exact Nat.xor_lt_two_pow (n := 8) (h.at_ ha) (Nat.pow_lt_pow_right (by decide) (by omega))
set_option maxRecDepth 100000 in
theorem flp_bt {l : List Nat} {a i : Nat} (ha : a / 8 < l.length) : bt (flp l a) i = (bt l i != decide (i = a)) := by
  unfold bt flp
  by_cases h : a / 8 = i / 8
  · rw [← h, List.getD_eq_getElem?_getD, List.getElem?_set_self ha, Option.getD_some, Nat.testBit_xor, Nat.testBit_two_pow]
    congr 1
    rw [decide_eq_decide]; omega
  · rw [List.getD_eq_getElem?_getD, List.getElem?_set_ne h, ← List.getD_eq_getElem?_getD]
    have : ¬ i = a := by rintro rfl; exact h rfl
    simp [this]
set_option maxRecDepth 100000 in
theorem shr128 (k : Nat) (h : k ≤ 7) : (128 : Int) / 2 ^ k = ((2 ^ (7 - k) : Nat) : Int) := by
  rcases (show k = 0 ∨ k = 1 ∨ k = 2 ∨ k = 3 ∨ k = 4 ∨ k = 5 ∨ k = 6 ∨ k = 7 by omega) with rfl | rfl | rfl | rfl | rfl | rfl | rfl | rfl <;> rfl
set_option maxRecDepth 100000 in
theorem flip_word {x k : Nat} (hx : x < 256) (h : k ≤ 7) : bits .xor .u8 (x : Int) ((128 : Int) / 2 ^ k) = ((x ^^^ 2 ^ (7 - k) : Nat) : Int) := by
  rw [shr128 k h, u8_xor_nat x _ hx (Nat.pow_lt_pow_right (n := 8) (by decide) (by omega))]
set_option maxRecDepth 100000 in
theorem PutAt.stored2 {w wr : World} {m : Nat} {v0 : Value} {L L' : List Nat} {g n cap j x : Nat} (h : PutAt w m v0 (.slice (some ⟨g, 0, none⟩) n cap) L wr) (hn : n = L.length) (hL : L' = L.set j x) :
    PutAt w m v0 (.slice (some ⟨g, 0, none⟩) n cap) L' (wr.setCell ⟨g, j, none⟩ (nv x)) := by
  subst hL
  subst hn
  obtain ⟨k1, k2⟩ := h.own.stored j (nv x)
  exact h.next k2 (L' := L.set j x) (v' := .slice (some ⟨g, 0, none⟩) L.length cap) (by rw [List.length_set]) (by rw [List.map_set]; exact k1)
end Go.Proofs.YtnfgkakhdgiepaaDoor

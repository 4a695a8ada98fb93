/- Parts of the proof, packed: PkDecode, PkDecR, PkBack, PkDecR1. -/
import Derived.Test.YtpombmpkccnefaaDoorPd9
import Derived.Deep.CutRange
import Derived.Test.YtpombmpkccnefaaDoorPd8
import Derived.Test.YtpombmpkccnefaaDoorPd7
/- packet: Decode. -/
namespace Go.Proofs.YtpombmpkccnefaaDoor
open Go.RowKit Bs
set_option maxRecDepth 100000 in
theorem rd_take {w : World} {q : Nat → Prop} {p : Option Addr} {c : Nat} {l : List Nat} (k : Nat) (hk : k ≤ l.length) (hR : Rd w q (.slice p l.length c) (l.map nv)) (c' : Nat) : Rd w q (.slice p (l.take k).length c') ((l.take k).map nv) := by
  obtain ⟨p1, c1, hv, hc⟩ := hR
  injection hv with h1 _ _
  subst h1
  refine ⟨p, c', by rw [List.length_map], fun hne => ?_⟩
  have hl : l.map nv ≠ [] := by
    intro e
    have e2 : l = [] := List.map_eq_nil_iff.1 e
    subst e2
    exact hne (by simp)
  obtain ⟨b, off, hp, hb, hx⟩ := hc hl
  refine ⟨b, off, hp, hb, fun i x hi => hx i x ?_⟩
  rw [List.map_take] at hi
  have hik : i < k := by
    have := (List.getElem?_eq_some_iff.1 hi).1
    rw [List.length_take] at this; omega
  rw [List.getElem?_take_of_lt hik] at hi
  exact hi
set_option maxRecDepth 100000 in
theorem grown_undrew {w w7 : World} (g : w.drew.grownBy w7 none) : w.grownBy w7 none := ⟨g.os, g.tape, g.output, g.size, g.block⟩
set_option maxRecDepth 100000 in
theorem zp_after {w w5 : World} (g : (w.alloc (.cells zpk 31)).drew.grownBy w5 none) : w5.heap[w.heap.size]? = some (.cells zpk 31 (0, 0)) :=
  kept_row (heap_alloc_new w _) (grown_undrew g) (by simp)
/-- The fields of the header. -/
def hv7 (l : List Nat) : Nat → Nat := fv (l.take 7)
def szV (V : Nat → Nat) : Nat := (49 + 8 * 2 ^ V 4 + 8 * V 9 + 16 + 7) / 8
/-- What Decode returns. -/
def decV (l : List Nat) : Array Value × Int :=
  if l.length < 7 then (zpk, 20) else if misV (hv7 l) ≠ 0 then (zpk, misV (hv7 l)) else if l.length < szV (hv7 l) then (zpk, 20) else
    if (restV (hv7 l) (8 * 2 ^ hv7 l 4) (l.take (szV (hv7 l)))).2 ≠ 0 then (zpk, (restV (hv7 l) (8 * 2 ^ hv7 l 4) (l.take (szV (hv7 l)))).2) else if szV (hv7 l) < l.length then (zpk, 21) else
      ((restV (hv7 l) (8 * 2 ^ hv7 l 4) (l.take (szV (hv7 l)))).1, 0)
set_option maxRecDepth 100000 in
set_option maxHeartbeats 3200000 in
theorem pdecode_any (l : List Nat) (hl : By l) (p : Option Addr) (c : Nat) (hc : l.length ≤ c) (q : Nat → Prop) (w : World) (hR : Rd w q (.slice p l.length c) (l.map nv)) :
    Calls Tryd.prog 14 #[.slice p l.length c] w fun e w' => e = .returned (.tuple #[.agg (decV l).1, .int .i64 (decV l).2]) ∧ w.grownBy w' none := by
  obtain ⟨k1, k2⟩ := one_box w zpk 31
  have HB := Lib.hid (And.intro k1 k2)
  have HR := Lib.hid (hR.keep k2)
  clear k1 k2 hR
  unfold zpk at HB HR
  go_enter Tryd.func14, Tryd.ntmps14
  go_wp2_with fail
  generalize w.alloc _ = wa at *
  change Hid (wa.heap[w.heap.size]? = some (.cells zpk 31 (0, 0)) ∧ w.grownBy wa none) at HB
  refine (wholeBytes_any 49 (by decide) _).mono ?_
  rintro e w' ⟨rfl, rfl⟩
  rw [show ((49 + 7) / 8 : Nat) = 7 from rfl]
  by_cases h7 : l.length < 7
  · have hE : Hid (decV l = (zpk, 20)) := Lib.hid (by unfold decV; rw [if_pos h7])
    obtain ⟨⟨r0, r1, r2, r3, r4, r5, r6, r7, r8, r9⟩, f0, f1, f2, f3, f4, f5, f6, f7, f8, f9⟩ := zp_cells HB.out.1
    go_wp2_with fail
    refine bodyPost_ret (res_packet_err rfl _ _ w.heap.size _ rfl rfl (pput_row _ _ _ _ _ _ _ _ _ _ HB.out.1)) rfl ?_
    exact ⟨by rw [hE.out]; rfl, grown_new HB.out.2 (pput_grown _ w.heap.size _ _ _ _ _ _ _ _ _ _) (Nat.le_refl _)⟩
  · have h7' : 7 ≤ l.length := by omega
    have h7c : 7 ≤ c := by omega
    go_wp2_with fail
    refine (wholeBytes_any 49 (by decide) _).mono ?_
    rintro e w' ⟨rfl, rfl⟩
    rw [show ((49 + 7) / 8 : Nat) = 7 from rfl]
    go_wp2_with fail
    have e7 : (l.take 7).length = 7 := by rw [List.length_take]; omega
    have hA := readHeader_any (l.take 7) (fun x hx => hl x (List.mem_of_mem_take hx)) (by rw [e7]; decide) q p c wa (rd_take 7 h7' HR.out c)
    rw [e7] at hA
    refine hA.mono ?_
    rintro e w2 ⟨rfl, hg⟩
    have HB2 := Lib.hid (And.intro (kept_row HB.out.1 hg (by simp)) (grown_trans HB.out.2 hg))
    have HR2 := Lib.hid (HR.out.keep hg)
    have HD : Hid (decV l = if misV (hv7 l) ≠ 0 then (zpk, misV (hv7 l)) else if l.length < szV (hv7 l) then (zpk, 20) else
      if (restV (hv7 l) (8 * 2 ^ hv7 l 4) (l.take (szV (hv7 l)))).2 ≠ 0 then (zpk, (restV (hv7 l) (8 * 2 ^ hv7 l 4) (l.take (szV (hv7 l)))).2) else if szV (hv7 l) < l.length then (zpk, 21) else
      ((restV (hv7 l) (8 * 2 ^ hv7 l 4) (l.take (szV (hv7 l)))).1, 0)) := Lib.hid (by unfold decV; rw [if_neg h7])
    have h4 : hv7 l 4 < 4 := num_lt _ _ 2
    have h9 : hv7 l 9 < 128 := num_lt _ _ 7
    clear hA hg HB HR e7
    change Hid (_ = _) at HD
    obtain ⟨V, hV⟩ : ∃ V, V = hv7 l := ⟨_, rfl⟩
    rw [← hV] at HD h4 h9
    rw [show fv (l.take 7) = V from hV.symm]
    obtain ⟨n, hn⟩ : ∃ n : Nat, n = 8 * 2 ^ V 4 := ⟨_, rfl⟩
    rw [← hn] at HD
    rw [show (8 * 2 ^ V 4 : Int) = (n : Int) by rw [hn]; simp]
    have hn64 : n ≤ 64 := by
      have : 2 ^ V 4 ≤ 2 ^ 3 := Nat.pow_le_pow_right (by decide) (by omega)
      omega
    have hsz : szV V = (49 + n + 8 * V 9 + 16 + 7) / 8 := by unfold szV; rw [← hn]
    clear hV hn
    have hvv : hval V (n : Int) = .agg #[.int .i64 (V 0 : Int), .int .i64 (V 1 : Int), .int .i64 (V 2 : Int), .int .i64 (V 3 : Int), .int .i64 (n : Int), .int .i64 (V 5 : Int), .int .i64 (V 6 : Int), .int .i64 (V 7 : Int), .int .i64 (V 8 : Int), .int .u64 0, .string ⟨#[]⟩, .int .i64 (V 4 : Int), .int .i64 (V 9 : Int)] := rfl
    rw [hvv]
    have HH := Lib.hid (heap_alloc_new w2 (.cells #[.int .i64 (V 0 : Int), .int .i64 (V 1 : Int), .int .i64 (V 2 : Int), .int .i64 (V 3 : Int), .int .i64 (n : Int), .int .i64 (V 5 : Int), .int .i64 (V 6 : Int), .int .i64 (V 7 : Int), .int .i64 (V 8 : Int), .int .u64 0, .string ⟨#[]⟩, .int .i64 (V 4 : Int), .int .i64 (V 9 : Int)] 85))
    have HG := Lib.hid (World.grownBy_alloc w2 (.cells #[.int .i64 (V 0 : Int), .int .i64 (V 1 : Int), .int .i64 (V 2 : Int), .int .i64 (V 3 : Int), .int .i64 (n : Int), .int .i64 (V 5 : Int), .int .i64 (V 6 : Int), .int .i64 (V 7 : Int), .int .i64 (V 8 : Int), .int .u64 0, .string ⟨#[]⟩, .int .i64 (V 4 : Int), .int .i64 (V 9 : Int)] 85) none)
    have HSZ := Lib.hid hsz
    clear hvv hsz
    go_wp2_with fail
    generalize w2.alloc _ = w3 at *
    change Hid (w3.heap[w2.heap.size]? = some (.cells (hdc V 10 (n : Int)) 85 (0, 0))) at HH
    have HB3 := Lib.hid (And.intro (kept_row HB2.out.1 HG.out (by simp)) (grown_trans HB2.out.2 HG.out))
    have HR3 := Lib.hid (HR2.out.keep HG.out)
    clear HB2 HR2 HG
    refine (mistake_any V (n : Int) w2.heap.size w3 HH.out).mono ?_
    rintro e w' ⟨rfl, rfl⟩
    obtain ⟨m, hm⟩ : ∃ m, m = misV V := ⟨_, rfl⟩
    rw [← hm] at HD ⊢
    have HM := Lib.hid hm
    clear hm
    by_cases hm0 : m = 0
    · have h64 : V 9 ≤ 64 := by
        have h := HM.out
        rw [hm0] at h
        unfold misV at h
        split at h
        · cases h
        · split at h
          · cases h
          · split at h
            · cases h
            · omega
      subst hm0
      have b4 : w3.cell? ⟨w2.heap.size, 4, none⟩ = some (.int .i64 (n : Int)) := cell_of_row _ _ _ _ _ _ HH.out
      have b9 : w3.cell? ⟨w2.heap.size, 12, none⟩ = some (.int .i64 (V 9 : Int)) := cell_of_row _ _ _ _ _ _ HH.out
      go_wp2_with fail
      refine (bytesForP_any n (V 9) (by omega) (by omega) _).mono ?_
      rintro e w' ⟨rfl, rfl⟩
      rw [← HSZ.out]
      have hs200 : szV V ≤ 200 := by rw [HSZ.out]; omega
      obtain ⟨z, hz⟩ : ∃ z, z = szV V := ⟨_, rfl⟩
      rw [← hz] at HD hs200 ⊢
      have HZ := Lib.hid hz
      clear hz b4 b9
      by_cases hlz : l.length < z
      · have hE : Hid (decV l = (zpk, 20)) := Lib.hid (by rw [HD.out, if_neg (by simp), if_pos hlz])
        obtain ⟨⟨r0, r1, r2, r3, r4, r5, r6, r7, r8, r9⟩, f0, f1, f2, f3, f4, f5, f6, f7, f8, f9⟩ := zp_cells HB3.out.1
        go_wp2_with fail
        refine bodyPost_ret (res_packet_err rfl _ _ w.heap.size _ rfl rfl (pput_row _ _ _ _ _ _ _ _ _ _ HB3.out.1)) rfl ?_
        exact ⟨by rw [hE.out]; rfl, grown_new HB3.out.2 (pput_grown _ w.heap.size _ _ _ _ _ _ _ _ _ _) (Nat.le_refl _)⟩
      · have hzc : z ≤ c := by omega
        have hzl : z ≤ l.length := by omega
        obtain ⟨d0, d1, d2, d3, d4, d5, d6, d7, d8, d9, d10, d11, d12⟩ : w3.cell? ⟨w2.heap.size, 0, none⟩ = some (.int .i64 (V 0 : Int)) ∧ w3.cell? ⟨w2.heap.size, 1, none⟩ = some (.int .i64 (V 1 : Int)) ∧ w3.cell? ⟨w2.heap.size, 2, none⟩ = some (.int .i64 (V 2 : Int)) ∧ w3.cell? ⟨w2.heap.size, 3, none⟩ = some (.int .i64 (V 3 : Int)) ∧ w3.cell? ⟨w2.heap.size, 4, none⟩ = some (.int .i64 (n : Int)) ∧ w3.cell? ⟨w2.heap.size, 5, none⟩ = some (.int .i64 (V 5 : Int)) ∧ w3.cell? ⟨w2.heap.size, 6, none⟩ = some (.int .i64 (V 6 : Int)) ∧ w3.cell? ⟨w2.heap.size, 7, none⟩ = some (.int .i64 (V 7 : Int)) ∧ w3.cell? ⟨w2.heap.size, 8, none⟩ = some (.int .i64 (V 8 : Int)) ∧ w3.cell? ⟨w2.heap.size, 9, none⟩ = some (.int .u64 0) ∧ w3.cell? ⟨w2.heap.size, 10, none⟩ = some (.string ⟨#[]⟩) ∧ w3.cell? ⟨w2.heap.size, 11, none⟩ = some (.int .i64 (V 4 : Int)) ∧ w3.cell? ⟨w2.heap.size, 12, none⟩ = some (.int .i64 (V 9 : Int)) := ⟨cell_of_row _ _ _ _ _ _ HH.out, cell_of_row _ _ _ _ _ _ HH.out, cell_of_row _ _ _ _ _ _ HH.out, cell_of_row _ _ _ _ _ _ HH.out, cell_of_row _ _ _ _ _ _ HH.out, cell_of_row _ _ _ _ _ _ HH.out, cell_of_row _ _ _ _ _ _ HH.out, cell_of_row _ _ _ _ _ _ HH.out, cell_of_row _ _ _ _ _ _ HH.out, cell_of_row _ _ _ _ _ _ HH.out, cell_of_row _ _ _ _ _ _ HH.out, cell_of_row _ _ _ _ _ _ HH.out, cell_of_row _ _ _ _ _ _ HH.out⟩
        go_wp2_with fail
        have ez : (l.take z).length = z := by rw [List.length_take]; omega
        obtain ⟨r, hr⟩ : ∃ r, r = restV V n (l.take z) := ⟨_, rfl⟩
        have HC : Hid (∀ w', w3.grownBy w' none → Calls Tryd.prog 59 #[.agg #[.int .i64 (V 0 : Int), .int .i64 (V 1 : Int), .int .i64 (V 2 : Int), .int .i64 (V 3 : Int), .int .i64 (n : Int), .int .i64 (V 5 : Int), .int .i64 (V 6 : Int), .int .i64 (V 7 : Int), .int .i64 (V 8 : Int), .int .u64 0, .string ⟨#[]⟩, .int .i64 (V 4 : Int), .int .i64 (V 9 : Int)], .slice p z c] w' fun e w'' => e = .returned (.tuple #[.agg r.1, .int .i64 r.2]) ∧ w'.grownBy w'' none) := Lib.hid fun w' hg => by
          have h := readRest_any V n hn64 h64 (l.take z) (fun x hx => hl x (List.mem_of_mem_take hx)) (by rw [ez, HZ.out, HSZ.out]) q p c w' (rd_take z hzl (HR3.out.keep hg) c)
          rw [ez, ← hr] at h
          exact h
        have hr2 : (∃ b s, r = (rcells V (n : Int) b s, 0)) ∨ (∃ x, x ≠ 0 ∧ r = (zpk, x)) := by
          rw [hr]; unfold restV
          split
          · exact .inl ⟨_, _, rfl⟩
          · rename_i hx; exact .inr ⟨_, hx, rfl⟩
        rw [← hr] at HD
        clear hr
        have hHZ : (w3.alloc (.cells #[.int .i64 0, .int .i64 0, .int .i64 0, .int .i64 0, .int .i64 0, .int .i64 0, .int .i64 0, .int .i64 0, .int .u64 0, .string ⟨#[]⟩] 31)).heap[w2.heap.size]? = some (.cells (hdc V 10 (n : Int)) 85 (0, 0)) := kept_row HH.out (World.grownBy_alloc w3 _ none) (by simp)
        obtain ⟨i0, i1, i2, i3, i4, i5, i6, i7, i8, i9, i10, i11, i12⟩ : (w3.alloc (.cells #[.int .i64 0, .int .i64 0, .int .i64 0, .int .i64 0, .int .i64 0, .int .i64 0, .int .i64 0, .int .i64 0, .int .u64 0, .string ⟨#[]⟩] 31)).cell? ⟨w2.heap.size, 0, none⟩ = some (.int .i64 (V 0 : Int)) ∧ (w3.alloc (.cells #[.int .i64 0, .int .i64 0, .int .i64 0, .int .i64 0, .int .i64 0, .int .i64 0, .int .i64 0, .int .i64 0, .int .u64 0, .string ⟨#[]⟩] 31)).cell? ⟨w2.heap.size, 1, none⟩ = some (.int .i64 (V 1 : Int)) ∧ (w3.alloc (.cells #[.int .i64 0, .int .i64 0, .int .i64 0, .int .i64 0, .int .i64 0, .int .i64 0, .int .i64 0, .int .i64 0, .int .u64 0, .string ⟨#[]⟩] 31)).cell? ⟨w2.heap.size, 2, none⟩ = some (.int .i64 (V 2 : Int)) ∧ (w3.alloc (.cells #[.int .i64 0, .int .i64 0, .int .i64 0, .int .i64 0, .int .i64 0, .int .i64 0, .int .i64 0, .int .i64 0, .int .u64 0, .string ⟨#[]⟩] 31)).cell? ⟨w2.heap.size, 3, none⟩ = some (.int .i64 (V 3 : Int)) ∧ (w3.alloc (.cells #[.int .i64 0, .int .i64 0, .int .i64 0, .int .i64 0, .int .i64 0, .int .i64 0, .int .i64 0, .int .i64 0, .int .u64 0, .string ⟨#[]⟩] 31)).cell? ⟨w2.heap.size, 4, none⟩ = some (.int .i64 (n : Int)) ∧ (w3.alloc (.cells #[.int .i64 0, .int .i64 0, .int .i64 0, .int .i64 0, .int .i64 0, .int .i64 0, .int .i64 0, .int .i64 0, .int .u64 0, .string ⟨#[]⟩] 31)).cell? ⟨w2.heap.size, 5, none⟩ = some (.int .i64 (V 5 : Int)) ∧ (w3.alloc (.cells #[.int .i64 0, .int .i64 0, .int .i64 0, .int .i64 0, .int .i64 0, .int .i64 0, .int .i64 0, .int .i64 0, .int .u64 0, .string ⟨#[]⟩] 31)).cell? ⟨w2.heap.size, 6, none⟩ = some (.int .i64 (V 6 : Int)) ∧ (w3.alloc (.cells #[.int .i64 0, .int .i64 0, .int .i64 0, .int .i64 0, .int .i64 0, .int .i64 0, .int .i64 0, .int .i64 0, .int .u64 0, .string ⟨#[]⟩] 31)).cell? ⟨w2.heap.size, 7, none⟩ = some (.int .i64 (V 7 : Int)) ∧ (w3.alloc (.cells #[.int .i64 0, .int .i64 0, .int .i64 0, .int .i64 0, .int .i64 0, .int .i64 0, .int .i64 0, .int .i64 0, .int .u64 0, .string ⟨#[]⟩] 31)).cell? ⟨w2.heap.size, 8, none⟩ = some (.int .i64 (V 8 : Int)) ∧ (w3.alloc (.cells #[.int .i64 0, .int .i64 0, .int .i64 0, .int .i64 0, .int .i64 0, .int .i64 0, .int .i64 0, .int .i64 0, .int .u64 0, .string ⟨#[]⟩] 31)).cell? ⟨w2.heap.size, 9, none⟩ = some (.int .u64 0) ∧ (w3.alloc (.cells #[.int .i64 0, .int .i64 0, .int .i64 0, .int .i64 0, .int .i64 0, .int .i64 0, .int .i64 0, .int .i64 0, .int .u64 0, .string ⟨#[]⟩] 31)).cell? ⟨w2.heap.size, 10, none⟩ = some (.string ⟨#[]⟩) ∧ (w3.alloc (.cells #[.int .i64 0, .int .i64 0, .int .i64 0, .int .i64 0, .int .i64 0, .int .i64 0, .int .i64 0, .int .i64 0, .int .u64 0, .string ⟨#[]⟩] 31)).cell? ⟨w2.heap.size, 11, none⟩ = some (.int .i64 (V 4 : Int)) ∧ (w3.alloc (.cells #[.int .i64 0, .int .i64 0, .int .i64 0, .int .i64 0, .int .i64 0, .int .i64 0, .int .i64 0, .int .i64 0, .int .u64 0, .string ⟨#[]⟩] 31)).cell? ⟨w2.heap.size, 12, none⟩ = some (.int .i64 (V 9 : Int)) := ⟨cell_of_row _ _ _ _ _ _ hHZ, cell_of_row _ _ _ _ _ _ hHZ, cell_of_row _ _ _ _ _ _ hHZ, cell_of_row _ _ _ _ _ _ hHZ, cell_of_row _ _ _ _ _ _ hHZ, cell_of_row _ _ _ _ _ _ hHZ, cell_of_row _ _ _ _ _ _ hHZ, cell_of_row _ _ _ _ _ _ hHZ, cell_of_row _ _ _ _ _ _ hHZ, cell_of_row _ _ _ _ _ _ hHZ, cell_of_row _ _ _ _ _ _ hHZ, cell_of_row _ _ _ _ _ _ hHZ, cell_of_row _ _ _ _ _ _ hHZ⟩
        clear hHZ
        rcases hr2 with ⟨b, s, rfl⟩ | ⟨x, hx, rfl⟩
        · have HC2 := Lib.hid HC.out
          clear HC
          dsimp only at HC2
          unfold rcells at HC2
          go_cut [7, 8] from 34 to 41 (fun pp ee wx => ∃ g, pp = .pointer (some ⟨g, 0, none⟩) ∧ ee = .int .i64 (0) ∧ Hid (wx.heap[g]? = some (.cells (rcells V (n : Int) b s) 31 (0, 0)) ∧ wx.heap[w.heap.size]? = some (.cells zpk 31 (0, 0)) ∧ w.grownBy wx none))
          case first =>
            go_region_law (first
              | (go_simp; go_at_call 59; refine (HC2.out _ ?_).mono ?_; (focus (repeat (first | (with_reducible exact grown_refl _ _) | apply grown_drew | (with_reducible exact World.grownBy_alloc _ _ _)))); rintro e w5 ⟨rfl, hap⟩; have G5 : Hid (w3.grownBy w5 none) := (by refine Lib.hid (grown_trans ?_ hap); repeat (first | (with_reducible exact grown_refl _ _) | apply grown_drew | (with_reducible exact World.grownBy_alloc _ _ _))); first | (have ZZ := zp_after hap; have ZR := Lib.hid ZZ; obtain ⟨⟨r0, r1, r2, r3, r4, r5, r6, r7, r8, r9⟩, f0, f1, f2, f3, f4, f5, f6, f7, f8, f9⟩ := zp_cells ZZ; clear ZZ) | skip))
            all_goals
              go_wp2_with fail
              go_meet
              first
                | (refine ⟨w3.heap.size, by with_reducible rfl, by with_reducible rfl, ?_⟩; exact Lib.hid ⟨pput_row (w := w5) (h := w3.heap.size) _ _ _ _ _ _ _ _ _ _ ZR.out, kept_row (kept_row HB3.out.1 G5.out (by simp)) (pput_grown w5 w3.heap.size _ _ _ _ _ _ _ _ _ _) (fun e => by have h1 := World.lt_of_row' HB3.out.1; have := Option.some.inj e; omega), grown_new (grown_trans HB3.out.2 G5.out) (pput_grown w5 w3.heap.size _ _ _ _ _ _ _ _ _ _) (HB3.out.2.size)⟩)
                | (refine ⟨w5.heap.size, by with_reducible rfl, by with_reducible rfl, ?_⟩; exact Lib.hid ⟨heap_alloc_new w5 _, kept_row HB3.out.1 (grown_trans G5.out (World.grownBy_alloc w5 _ none)) (by simp), grown_trans HB3.out.2 (grown_trans G5.out (World.grownBy_alloc w5 _ none))⟩)
          case rest =>
            obtain ⟨g, rfl, rfl, HW⟩ := hcut
            clear d0 d1 d2 d3 d4 d5 d6 d7 d8 d9 d10 d11 d12 i0 i1 i2 i3 i4 i5 i6 i7 i8 i9 i10 i11 i12 HC2
            obtain ⟨⟨r0, r1, r2, r3, r4, r5, r6, r7, r8, r9⟩, f0, f1, f2, f3, f4, f5, f6, f7, f8, f9⟩ := zp_cells HW.out.2.1
            by_cases hlong : z < l.length
            · have hE : Hid (decV l = (zpk, 21)) := Lib.hid (by rw [HD.out, if_neg (by simp), if_neg hlz, if_neg (by simp), if_pos hlong])
              go_wp2_with fail
              refine bodyPost_ret (res_packet_err rfl _ _ w.heap.size _ rfl rfl (pput_row _ _ _ _ _ _ _ _ _ _ HW.out.2.1)) rfl ?_
              exact ⟨by rw [hE.out]; rfl, grown_new HW.out.2.2 (pput_grown _ w.heap.size _ _ _ _ _ _ _ _ _ _) (Nat.le_refl _)⟩
            · have hE : Hid (decV l = (rcells V (n : Int) b s, 0)) := Lib.hid (by rw [HD.out, if_neg (by simp), if_neg hlz, if_neg (by simp), if_neg hlong])
              obtain ⟨q0, q1, q2, q3, q4, q5, q6, q7, q8, q9⟩ := rc_cells HW.out.1
              go_wp2_with fail
              refine bodyPost_ret (res_packet_err rfl _ _ w.heap.size _ rfl rfl (pput_row _ _ _ _ _ _ _ _ _ _ HW.out.2.1)) rfl ?_
              exact ⟨by rw [hE.out]; rfl, grown_new HW.out.2.2 (pput_grown _ w.heap.size _ _ _ _ _ _ _ _ _ _) (Nat.le_refl _)⟩
        · have HC2 := Lib.hid HC.out
          clear HC
          dsimp only at HC2
          unfold zpk at HC2
          go_cut [7, 8] from 34 to 41 (fun pp ee wx => ∃ g, pp = .pointer (some ⟨g, 0, none⟩) ∧ ee = .int .i64 (x) ∧ Hid (wx.heap[g]? = some (.cells (zpk) 31 (0, 0)) ∧ wx.heap[w.heap.size]? = some (.cells zpk 31 (0, 0)) ∧ w.grownBy wx none))
          case first =>
            go_region_law (first
              | (go_simp; go_at_call 59; refine (HC2.out _ ?_).mono ?_; (focus (repeat (first | (with_reducible exact grown_refl _ _) | apply grown_drew | (with_reducible exact World.grownBy_alloc _ _ _)))); rintro e w5 ⟨rfl, hap⟩; have G5 : Hid (w3.grownBy w5 none) := (by refine Lib.hid (grown_trans ?_ hap); repeat (first | (with_reducible exact grown_refl _ _) | apply grown_drew | (with_reducible exact World.grownBy_alloc _ _ _))); first | (have ZZ := zp_after hap; have ZR := Lib.hid ZZ; obtain ⟨⟨r0, r1, r2, r3, r4, r5, r6, r7, r8, r9⟩, f0, f1, f2, f3, f4, f5, f6, f7, f8, f9⟩ := zp_cells ZZ; clear ZZ) | skip))
            all_goals
              go_wp2_with fail
              go_meet
              first
                | (refine ⟨w3.heap.size, by with_reducible rfl, by with_reducible rfl, ?_⟩; exact Lib.hid ⟨pput_row (w := w5) (h := w3.heap.size) _ _ _ _ _ _ _ _ _ _ ZR.out, kept_row (kept_row HB3.out.1 G5.out (by simp)) (pput_grown w5 w3.heap.size _ _ _ _ _ _ _ _ _ _) (fun e => by have h1 := World.lt_of_row' HB3.out.1; have := Option.some.inj e; omega), grown_new (grown_trans HB3.out.2 G5.out) (pput_grown w5 w3.heap.size _ _ _ _ _ _ _ _ _ _) (HB3.out.2.size)⟩)
                | (refine ⟨w5.heap.size, by with_reducible rfl, by with_reducible rfl, ?_⟩; exact Lib.hid ⟨heap_alloc_new w5 _, kept_row HB3.out.1 (grown_trans G5.out (World.grownBy_alloc w5 _ none)) (by simp), grown_trans HB3.out.2 (grown_trans G5.out (World.grownBy_alloc w5 _ none))⟩)
          case rest =>
            obtain ⟨g, rfl, rfl, HW⟩ := hcut
            clear d0 d1 d2 d3 d4 d5 d6 d7 d8 d9 d10 d11 d12 i0 i1 i2 i3 i4 i5 i6 i7 i8 i9 i10 i11 i12 HC2
            obtain ⟨⟨r0, r1, r2, r3, r4, r5, r6, r7, r8, r9⟩, f0, f1, f2, f3, f4, f5, f6, f7, f8, f9⟩ := zp_cells HW.out.2.1
            have hE : Hid (decV l = (zpk, x)) := Lib.hid (by rw [HD.out, if_neg (by simp), if_neg hlz, if_pos hx])
            have hxb : (x != 0) = true := by simpa using hx
            go_wp2_with fail
            refine bodyPost_ret (res_packet_err rfl _ _ w.heap.size _ rfl rfl (pput_row _ _ _ _ _ _ _ _ _ _ HW.out.2.1)) rfl ?_
            exact ⟨by rw [hE.out]; rfl, grown_new HW.out.2.2 (pput_grown _ w.heap.size _ _ _ _ _ _ _ _ _ _) (Nat.le_refl _)⟩
    · have hE : Hid (decV l = (zpk, m)) := Lib.hid (by rw [HD.out, if_pos hm0])
      have hmb : (m != 0) = true := by simpa using hm0
      obtain ⟨⟨r0, r1, r2, r3, r4, r5, r6, r7, r8, r9⟩, f0, f1, f2, f3, f4, f5, f6, f7, f8, f9⟩ := zp_cells HB3.out.1
      go_wp2_with fail
      refine bodyPost_ret (res_packet_err rfl _ _ w.heap.size _ rfl rfl (pput_row _ _ _ _ _ _ _ _ _ _ HB3.out.1)) rfl ?_
      exact ⟨by rw [hE.out]; rfl, grown_new HB3.out.2 (pput_grown _ w.heap.size _ _ _ _ _ _ _ _ _ _) (Nat.le_refl _)⟩
end Go.Proofs.YtpombmpkccnefaaDoor

/- packet: what the reference's Decode calls. -/
namespace Go.Proofs.YtpombmpkccnefaaDoor
open Go.RowKit Bs
section
variable {w : World} {q : Nat → Prop} {l : List Nat} {p : Option Addr} {c : Nat}
set_option maxRecDepth 100000 in
theorem slice_wholer {A T : Nat} {a b : Int} (t : Int) (ht : t = (T : Int)) (hl : By l) (h : 8 * l.length ≤ 8192) (hT : A + T ≤ 8 * l.length) (ha : a = (A : Int)) (hb : b = ((A + T : Nat) : Int)) (hR : Rd w q (.slice p l.length c) (l.map nv)) :
    Calls Tryd.prog 63 #[.agg #[.slice p l.length c, .int .i64 (8 * (l.length : Int))], .int .i64 a, .int .i64 b] w fun e w' =>
      ∃ p2 c2, e = .returned (.tuple #[.agg #[.slice p2 (pz (fun i => bt l (A + i)) T ((T + 7) / 8)).length c2, .int .i64 t], .int .i64 0]) ∧ Rd w' (fun _ => True) (.slice p2 (pz (fun i => bt l (A + i)) T ((T + 7) / 8)).length c2) ((pz (fun i => bt l (A + i)) T ((T + 7) / 8)).map nv) ∧ (p2 = none → c2 = 0) ∧ w.grownBy w' none := by
  subst ha hb ht
  refine (slicer_any l (8 * (l.length : Int)) (A : Int) ((A + T : Nat) : Int) _ p c hl (by unfold I64; omega) (by unfold I64; omega) w (fun _ h => h) hR.bound).mono fun e w' hp => ?_
  have hv := slV_ok (l := l) (N := 8 * l.length) (A := A) (T := T) (vs_whole h) rfl hT
  rw [Int.natCast_mul] at hv
  change slV l (8 * (l.length : Int)) _ _ = _ at hv
  rw [hv] at hp
  obtain ⟨u, he, ⟨p2, c2, rfl, h1, h2, _⟩, hg⟩ := hp
  exact ⟨p2, c2, he, h1, h2, hg⟩
set_option maxRecDepth 100000 in
theorem take_wholer {A K : Nat} {a k : Int} (hl : By l) (h : 8 * l.length ≤ 8192) (hK : K ≤ 64) (hT : A + K ≤ 8 * l.length) (ha : a = (A : Int)) (hk : k = (K : Int)) (hR : Rd w q (.slice p l.length c) (l.map nv)) :
    Calls Tryd.prog 60 #[.agg #[.slice p l.length c, .int .i64 (8 * (l.length : Int))], .int .i64 a, .int .i64 k] w fun e w' => e = .returned (.tuple #[.int .u64 ((num (bt l) A K : Nat) : Int), .int .i64 0]) ∧ w.grownBy w' none := by
  subst ha hk
  refine (taker_any l (8 * (l.length : Int)) (A : Int) (K : Int) _ p c hl (by unfold I64; omega) w (fun _ h => h) hR.bound).mono fun e w' hp => ?_
  obtain ⟨he, hg⟩ := hp
  have hv := takeV_ok (l := l) (n := ((8 * l.length : Nat) : Int)) (a := (A : Int)) (k := (K : Int)) (vs_whole h) (by unfold vw; simp; omega) (by omega) (by omega)
  rw [Int.natCast_mul, Int.toNat_natCast, Int.toNat_natCast] at hv
  change takeV l (8 * (l.length : Int)) _ _ = _ at hv
  rw [hv] at he
  exact ⟨he, hg⟩
set_option maxRecDepth 100000 in
theorem check_partr {T : Nat} {t : Int} (ht : t = (T : Int)) (h : T ≤ 8 * l.length) (h2 : 8 * l.length ≤ 8192) (hR : Rd w q (.slice p (pz (fun i => bt l (0 + i)) T ((T + 7) / 8)).length c) ((pz (fun i => bt l (0 + i)) T ((T + 7) / 8)).map nv)) :
    Calls Tryd.prog 47 #[.agg #[.slice p (pz (fun i => bt l (0 + i)) T ((T + 7) / 8)).length c, .int .i64 t]] w fun e w' => e = .returned (.tuple #[.int .u64 ((chk (bt l) T : Nat) : Int), .int .i64 0]) ∧ w.grownBy w' none := by
  subst ht
  refine (checkr_any _ (T : Int) _ p c (pz_lt _ _ _) w (fun _ h => h) hR.bound).mono fun e w' hp => ?_
  obtain ⟨he, hg⟩ := hp
  have hvs : vs (pz (fun i => bt l (0 + i)) T ((T + 7) / 8)) (T : Int) = true := by
    refine vs_iff.2 ⟨by omega, pz_len _ _ _, fun i hi hn => ?_⟩
    rw [pz_len] at hi
    rw [bt_pz _ _ _ _ hi]
    simp; omega
  rw [chkV_ok hvs] at he
  rw [← chk_same (f := bt (pz (fun i => bt l (0 + i)) T ((T + 7) / 8))) (g := bt l) T fun i hi => by rw [bt_pz _ _ _ _ (by omega)]; simp [hi]]
  exact ⟨he, hg⟩
end
set_option maxRecDepth 100000 in
theorem decoded_any (v : Nat) (hv : v < 4) (w : World) :
    Calls Tryd.prog 61 #[.int .i64 (v : Int)] w fun e w' => e = .returned (.int .i64 ((8 * 2 ^ v : Nat) : Int)) ∧ w = w' := by
  rcases (show v = 0 ∨ v = 1 ∨ v = 2 ∨ v = 3 by omega) with rfl | rfl | rfl | rfl
  all_goals
    go_enter Tryd.func61, Tryd.ntmps61
    go_wp2_with fail
    go_ret
    exact ⟨rfl, rfl⟩
/-- The result's box, the stream's, the widths, while the reference decodes. -/
structure DR (W : World) (S D : Nat) (t : List Nat) (p : Option Addr) (c : Nat) (w : World) : Prop where
  zb : w.heap[W.heap.size]? = some (.cells zpk 31 (0, 0))
  sb : w.heap[S]? = some (.cells #[.slice p t.length c, .int .i64 (8 * (t.length : Int))] 75 (0, 0))
  db : w.heap[D]? = some (.cells wcells 3 (0, 0))
  rd : Rd w (· < W.heap.size) (.slice p t.length c) (t.map nv)
  gr : W.grownBy w none
section
variable {W w w1 : World} {S D : Nat} {t : List Nat} {p : Option Addr} {c : Nat}
theorem DR.keep (H : DR W S D t p c w) (k : w.grownBy w1 none) : DR W S D t p c w1 :=
  ⟨kept_row H.zb k (by simp), kept_row H.sb k (by simp), kept_row H.db k (by simp), H.rd.keep k, grown_trans H.gr k⟩
theorem DR.facts (H : DR W S D t p c w) : w.cell? ⟨S, 0, none⟩ = some (.slice p t.length c) ∧ w.cell? ⟨S, 1, none⟩ = some (.int .i64 (8 * (t.length : Int))) :=
  ⟨(row_cells H.sb).1, (row_cells H.sb).2⟩
end
/-- The list of the fields, while it is made. -/
def Flds (wb : World) (V : Nat → Nat) (k : Nat) (v : Value) (w : World) : Prop := w.ownsRow wb.heap.size 3 1 v k ((List.range k).map fun j => zv (V j)) ∧ wb.grownBy w none
theorem flds_next {wb wr w1 : World} {V : Nat → Nat} {k : Nat} {v v' : Value} {o : Obj} (h : Flds wb V k v wr) (hown : w1.ownsRow wb.heap.size 3 1 v' (k + 1) (((List.range k).map fun j => zv (V j)) ++ [zv (V k)])) (hg : (wr.alloc o).grownBy w1 v.ownBlock) : Flds wb V (k + 1) v' w1 := by
  refine ⟨?_, own_step h.2 h.1 hg⟩
  rw [List.range_succ, List.map_append]
  exact hown
theorem flds_keep {wb wr w1 : World} {V : Nat → Nat} {k : Nat} {v : Value} (h : Flds wb V k v wr) (g : wr.grownBy w1 none) : Flds wb V k v w1 :=
  ⟨h.1.kept g (by cases hv : v.ownBlock <;> simp), grown_trans h.2 g⟩
theorem own_cell2 {w : World} {base g n cap k : Nat} {e : TypeId} {xs : List Value} {x : Value} (h : w.ownsRow base e 1 (.slice (some ⟨g, 0, none⟩) n cap) n xs) (hk : xs[k]? = some x) : w.cell? ⟨g, k, none⟩ = some x := by
  obtain ⟨p, c, hv, hc⟩ := rd_of_own h
  injection hv with h1 _ _
  obtain ⟨b, off, hp, _, hx⟩ := hc (by intro e2; rw [e2] at hk; cases hk)
  rw [hp] at h1
  have h2 := Option.some.inj h1
  injection h2 with h3 h4 _
  have := hx k x hk
  rw [← h3, ← h4, Nat.zero_add] at this
  exact this
theorem flds_cell {wb w : World} {V : Nat → Nat} {g n cap j : Nat} (h : Flds wb V n (.slice (some ⟨g, 0, none⟩) n cap) w) (hj : j < n) : w.cell? ⟨g, j, none⟩ = some (.int .i64 ((V j : Nat) : Int)) :=
  own_cell2 h.1 (by rw [List.getElem?_map, List.getElem?_range hj]; rfl)
end Go.Proofs.YtpombmpkccnefaaDoor

/- packet: Decode undoes Encode. -/
namespace Go.Proofs.YtpombmpkccnefaaDoor
open Go.RowKit Bs
set_option maxRecDepth 100000 in
theorem num_mid (A C : List Bool) (x k : Nat) (hx : x < 2 ^ k) : num (bf (A ++ nb x k ++ C)) A.length k = x := by
  refine (num_eq hx fun t ht => ?_).symm
  rw [bf_left _ _ _ (by rw [List.length_append, nb_len]; omega), bf_right, bf_nb _ _ _ ht]
set_option maxRecDepth 100000 in
theorem num_pk {B : List Bool} {l : List Nat} {a k : Nat} (hl : l = pk B) (h : a + k ≤ 8 * l.length) : num (bt l) a k = num (bf B) a k := by
  refine num_congr k fun t ht => ?_
  rw [hl]
  refine bt_pk B _ ?_
  rw [hl, pk_len] at h
  omega
set_option maxRecDepth 100000 in
theorem bt_take {l : List Nat} {m i : Nat} (h : i < 8 * m) : bt (l.take m) i = bt l i := by
  unfold bt
  rw [List.getD_eq_getElem?_getD, List.getD_eq_getElem?_getD, List.getElem?_take_of_lt (by omega)]
set_option maxRecDepth 100000 in
theorem flb_split (f : List (Nat × Nat)) (k x wd : Nat) (h : f[k]? = some (x, wd)) : flb f = flb (f.take k) ++ nb x wd ++ flb (f.drop (k + 1)) := by
  have e : f = f.take k ++ (x, wd) :: f.drop (k + 1) := by
    have hk := (List.getElem?_eq_some_iff.1 h)
    obtain ⟨hk, he⟩ := hk
    rw [← he, ← List.drop_eq_getElem_cons hk, List.take_append_drop]
  have e2 : flb f = flb (f.take k ++ (x, wd) :: f.drop (k + 1)) := congrArg flb e
  rw [e2]
  unfold flb
  rw [List.flatMap_append, List.flatMap_cons, ← List.append_assoc]
set_option maxRecDepth 100000 in
theorem take_len (P : Pk) (k : Nat) (hk : k < 10) : (flb ((fl P).take k)).length = offs.getD k 0 := by
  rw [flb_len]
  rcases (show k = 0 ∨ k = 1 ∨ k = 2 ∨ k = 3 ∨ k = 4 ∨ k = 5 ∨ k = 6 ∨ k = 7 ∨ k = 8 ∨ k = 9 by omega) with rfl | rfl | rfl | rfl | rfl | rfl | rfl | rfl | rfl | rfl <;> rfl
/-- All bits of an encoding. -/
def allb (P : Pk) : List Bool := body P ++ nb (ck (body P)) 16
set_option maxRecDepth 100000 in
theorem enc_all (P : Pk) : enc P = pk (allb P) := rfl
set_option maxRecDepth 100000 in
theorem all_len (P : Pk) : (allb P).length = 49 + P.len.toNat + 8 * P.pay.size + 16 := by
  unfold allb
  rw [List.length_append, nb_len, body_len]
set_option maxRecDepth 100000 in
theorem enc_len (P : Pk) : (enc P).length = (49 + P.len.toNat + 8 * P.pay.size + 16 + 7) / 8 := by rw [enc_all, pk_len, all_len]
set_option maxRecDepth 100000 in
theorem wid_at (P : Pk) (k : Nat) (hk : k < 10) : ∃ x, (fl P)[k]? = some (x, wids.getD k 0) := by
  rcases (show k = 0 ∨ k = 1 ∨ k = 2 ∨ k = 3 ∨ k = 4 ∨ k = 5 ∨ k = 6 ∨ k = 7 ∨ k = 8 ∨ k = 9 by omega) with rfl | rfl | rfl | rfl | rfl | rfl | rfl | rfl | rfl | rfl <;> exact ⟨_, rfl⟩
set_option maxRecDepth 100000 in
theorem off_le (k : Nat) (hk : k < 10) : offs.getD k 0 + wids.getD k 0 ≤ 49 := by
  rcases (show k = 0 ∨ k = 1 ∨ k = 2 ∨ k = 3 ∨ k = 4 ∨ k = 5 ∨ k = 6 ∨ k = 7 ∨ k = 8 ∨ k = 9 by omega) with rfl | rfl | rfl | rfl | rfl | rfl | rfl | rfl | rfl | rfl <;> decide
set_option maxRecDepth 100000 in
/-- A header's field is read back. -/
theorem fv_enc {P : Pk} {k x : Nat} (hk : k < 10) (h : (fl P)[k]? = some (x, wids.getD k 0)) (hx : x < 2 ^ wids.getD k 0) : hv7 (enc P) k = x := by
  have ho := off_le k hk
  have hlen := all_len P
  unfold hv7 fv
  have h1 : num (bt ((enc P).take 7)) (offs.getD k 0) (wids.getD k 0) = num (bt (enc P)) (offs.getD k 0) (wids.getD k 0) := num_congr _ fun t ht => bt_take (by omega)
  rw [h1, num_pk (enc_all P) (by rw [enc_len]; omega)]
  have e : allb P = flb ((fl P).take k) ++ nb x (wids.getD k 0) ++ (flb ((fl P).drop (k + 1)) ++ nb P.bits P.len.toNat ++ pb (byl P.pay) ++ nb (ck (body P)) 16) := by
    unfold allb
    generalize nb (ck (body P)) 16 = T
    unfold body
    rw [flb_split (fl P) k x _ h]
    simp only [List.append_assoc]
  rw [e, ← take_len P k hk]
  exact num_mid _ _ _ _ hx
set_option maxRecDepth 100000 in
theorem num_bits {P : Pk} (hb : P.bits < 2 ^ P.len.toNat) : num (bf (allb P)) 49 P.len.toNat = P.bits := by
  have e : allb P = flb (fl P) ++ nb P.bits P.len.toNat ++ (pb (byl P.pay) ++ nb (ck (body P)) 16) := by
    unfold allb
    generalize nb (ck (body P)) 16 = T
    unfold body
    simp only [List.append_assoc]
  rw [e, ← hdr_len P]
  exact num_mid _ _ _ _ hb
set_option maxRecDepth 100000 in
theorem num_check (P : Pk) : num (bf (allb P)) (49 + P.len.toNat + 8 * P.pay.size) 16 = ck (body P) := by
  have h := num_mid (body P) [] (ck (body P)) 16 (chk_lt _ _)
  rw [List.append_nil, body_len] at h
  exact h
set_option maxRecDepth 100000 in
theorem bs_byl (s : ByteArray) : bs (byl s) = s := by
  unfold bs byl
  rw [List.map_map]
  have : (s.data.toList.map ((fun x => UInt8.ofNat x) ∘ fun b => b.toNat)) = s.data.toList := by
    refine (List.map_congr_left fun b _ => ?_).trans (List.map_id _)
    show UInt8.ofNat b.toNat = b
    exact UInt8.ofNat_toNat
  rw [this]
set_option maxRecDepth 100000 in
theorem pay_back (P : Pk) : restP (enc P) P.len.toNat P.pay.size = P.pay := by
  unfold restP
  have hl := byl_len P.pay
  have e : pz (fun i => bt (enc P) (49 + P.len.toNat + i)) (8 * P.pay.size) P.pay.size = byl P.pay := by
    rw [← pk_pb (byl P.pay) (byl_by P.pay)]
    unfold pk
    rw [pb_len, hl, show (8 * P.pay.size + 7) / 8 = P.pay.size by omega]
    refine pz_congr fun i hi => ?_
    simp only [hi, decide_true, Bool.true_and]
    rw [enc_all, bt_pk _ _ (by rw [all_len]; omega)]
    have e2 : allb P = (flb (fl P) ++ nb P.bits P.len.toNat) ++ pb (byl P.pay) ++ nb (ck (body P)) 16 := rfl
    rw [e2, bf_left _ _ _ (by rw [List.length_append, List.length_append, hdr_len, nb_len, pb_len, hl]; omega)]
    have h49 : 49 + P.len.toNat = (flb (fl P) ++ nb P.bits P.len.toNat).length := by rw [List.length_append, hdr_len, nb_len]
    rw [h49, bf_right]
  rw [e, bs_byl]
set_option maxRecDepth 100000 in
theorem lcode_back {n : Int} (h : vl n = true) : 8 * 2 ^ lcode n = n.toNat := by
  rcases vl_cases h with rfl | rfl | rfl | rfl <;> rfl
set_option maxRecDepth 100000 in
/-- Decode undoes Encode. -/
theorem dec_enc {P : Pk} (hP : P.Wf) (h : vpk P = true) : decV (enc P) = (pcells P, 0) := by
  obtain ⟨⟨m1, m2⟩, ⟨s1, s2⟩, ⟨e1, e2⟩, ⟨t1, t2⟩, ⟨n1, n2⟩, ⟨i1, i2⟩, ⟨p1, p2⟩, y1, v1⟩ := vpk_parts h
  have hvl := vb_vl v1
  have V0 : hv7 (enc P) 0 = 2 := fv_enc (by decide) rfl (by decide)
  have V1 : hv7 (enc P) 1 = P.mode.toNat := fv_enc (by decide) rfl (show P.mode.toNat < 4 by omega)
  have V2 : hv7 (enc P) 2 = P.sub.toNat := fv_enc (by decide) rfl (show P.sub.toNat < 8 by omega)
  have V3 : hv7 (enc P) 3 = P.set.toNat := fv_enc (by decide) rfl (show P.set.toNat < 32 by omega)
  have V4 : hv7 (enc P) 4 = lcode P.len := fv_enc (by decide) rfl (lcode_lt P.len)
  have V5 : hv7 (enc P) 5 = P.ttl.toNat := fv_enc (by decide) rfl (show P.ttl.toNat < 64 by omega)
  have V6 : hv7 (enc P) 6 = P.ent.toNat := fv_enc (by decide) rfl (show P.ent.toNat < 1024 by omega)
  have V7 : hv7 (enc P) 7 = P.ing.toNat := fv_enc (by decide) rfl (show P.ing.toNat < 512 by omega)
  have V8 : hv7 (enc P) 8 = P.pro.toNat := fv_enc (by decide) rfl (show P.pro.toNat < 8 by omega)
  have V9 : hv7 (enc P) 9 = P.pay.size := fv_enc (by decide) rfl (show P.pay.size < 128 by omega)
  have hb := vb_lt v1 hP.bits
  have hlen := enc_len P
  have hn : 8 * 2 ^ hv7 (enc P) 4 = P.len.toNat := by rw [V4]; exact lcode_back hvl
  have hz : szV (hv7 (enc P)) = (enc P).length := by unfold szV; rw [hn, V9, hlen]
  have hm : misV (hv7 (enc P)) = 0 := by
    unfold misV
    rw [if_neg (by rw [V0]; decide), if_neg (by rw [V1]; omega), if_neg (by rw [V7, V9]; omega)]
  have hr : restE (enc P) P.len.toNat P.pay.size = 0 := by
    unfold restE
    rw [if_neg, if_neg]
    · intro hne
      refine hne ?_
      have hx : 0 = num (bt (enc P)) (49 + P.len.toNat + 8 * P.pay.size + 16) (8 * (enc P).length - (49 + P.len.toNat + 8 * P.pay.size + 16)) := by
        refine num_eq (Nat.two_pow_pos _) fun t ht => ?_
        rw [Nat.zero_testBit, enc_all, bt_pk _ _ (by rw [all_len]; rw [hlen] at ht; omega)]
        exact (bf_out _ _ (by rw [all_len]; omega)).symm
      exact hx.symm
    · intro hne
      refine hne ?_
      rw [num_pk (enc_all P) (by rw [hlen]; omega), num_check]
      unfold ck
      rw [body_len]
      refine chk_same _ fun i hi => ?_
      rw [enc_all, bt_pk _ _ (by rw [all_len]; omega)]
      unfold allb
      rw [bf_left _ _ _ (by rw [body_len]; exact hi)]
  have hbits : num (bt (enc P)) 49 P.len.toNat = P.bits := by
    rw [num_pk (enc_all P) (by rw [hlen]; omega), num_bits hb]
  unfold decV
  rw [if_neg (by rw [hlen]; omega), if_neg (by rw [hm]; simp), if_neg (by rw [hz]; omega), hz, List.take_length, hn]
  have hrest : restV (hv7 (enc P)) P.len.toNat (enc P) = (pcells P, 0) := by
    unfold restV
    rw [V9, if_pos hr, hbits, pay_back]
    unfold rcells pcells
    rw [V1, V2, V3, V5, V6, V7, V8, Int.toNat_of_nonneg (by omega), Int.toNat_of_nonneg s1, Int.toNat_of_nonneg e1, Int.toNat_of_nonneg t1, Int.toNat_of_nonneg n1, Int.toNat_of_nonneg i1, Int.toNat_of_nonneg p1]
    rw [Int.toNat_of_nonneg (show 0 ≤ P.len by rcases vl_cases hvl with h | h | h | h <;> rw [h] <;> decide)]
  rw [hrest]
  rw [if_neg (by simp), if_neg (by omega)]
end Go.Proofs.YtpombmpkccnefaaDoor

/- packet: what the reference's Decode keeps, its payload, its answer. -/
namespace Go.Proofs.YtpombmpkccnefaaDoor
open Go.RowKit Bs
/-- The boxes and the fields, while the reference decodes behind the header. -/
structure RR (W wb : World) (S D gf cf B : Nat) (V : Nat → Nat) (n b : Nat) (s : ByteArray) (t : List Nat) (p : Option Addr) (c : Nat) (w : World) : Prop where
  dr : DR W S D t p c w
  fl : Flds wb V 10 (.slice (some ⟨gf, 0, none⟩) 10 cf) w
  pb : w.heap[B]? = some (.cells (rcells V (n : Int) b s) 31 (0, 0))
  ne : W.heap.size < B ∧ S ≠ B ∧ D ≠ B ∧ gf ≠ B ∧ wb.heap.size ≤ B
section
variable {W wb w w1 : World} {S D gf cf B : Nat} {V : Nat → Nat} {n b : Nat} {s : ByteArray} {t : List Nat} {p : Option Addr} {c : Nat}
theorem RR.keep (H : RR W wb S D gf cf B V n b s t p c w) (k : w.grownBy w1 none) : RR W wb S D gf cf B V n b s t p c w1 :=
  ⟨H.dr.keep k, flds_keep H.fl k, kept_row H.pb k (by simp), H.ne⟩
theorem DR.other (H : DR W S D t p c w) (k : w.grownBy w1 (some B)) (h1 : W.heap.size < B) (h2 : S ≠ B) (h3 : D ≠ B) : DR W S D t p c w1 :=
  ⟨kept_row H.zb k (fun e => by have := Option.some.inj e; omega), kept_row H.sb k (fun e => h2 (Option.some.inj e)), kept_row H.db k (fun e => h3 (Option.some.inj e)), H.rd.grown k (fun b hb e => by have := Option.some.inj e; omega), grown_new H.gr k (by omega)⟩
theorem RR.stores (H : RR W wb S D gf cf B V n b s t p c w) {k : Nat} {v : Value} {b' : Nat} {s' : ByteArray} (h : (rcells V (n : Int) b s).setIfInBounds k v = rcells V (n : Int) b' s') : RR W wb S D gf cf B V n b' s' t p c (w.setCell ⟨B, k, none⟩ v) := by
  have j := grown_setCell w ⟨B, k, none⟩ v
  obtain ⟨h1, h2, h3, h4, h5⟩ := H.ne
  refine ⟨H.dr.other j h1 h2 h3, ⟨H.fl.1.kept j (.inr (fun e => h4 (Option.some.inj (show some gf = some B from e)))), grown_new H.fl.2 j h5⟩, ?_, H.ne⟩
  rw [← h]
  exact heap_setCell_same w _ k _ _ _ H.pb
theorem RR.bits (H : RR W wb S D gf cf B V n b s t p c w) (b' : Nat) : RR W wb S D gf cf B V n b' s t p c (w.setCell ⟨B, 8, none⟩ (.int .u64 (b' : Int))) := H.stores rfl
theorem RR.pay (H : RR W wb S D gf cf B V n b s t p c w) (s' : ByteArray) : RR W wb S D gf cf B V n b s' t p c (w.setCell ⟨B, 9, none⟩ (.string s')) := H.stores rfl
end
/-- The bytes of the payload, while they are read. -/
def pyl (t : List Nat) (A j : Nat) : List Nat := (List.range j).map fun i => num (bt t) (A + 8 * i) 8
def PayRel (wb : World) (t : List Nat) (A j : Nat) (v : Value) (w : World) : Prop := w.ownsRow wb.heap.size 5 1 v j ((pyl t A j).map nv) ∧ (j = 0 → v = .slice none 0 0) ∧ wb.grownBy w none
theorem pyl_next (t : List Nat) (A j : Nat) : pyl t A (j + 1) = pyl t A j ++ [num (bt t) (A + 8 * j) 8] := by unfold pyl; rw [List.range_succ, List.map_append]; rfl
theorem pyl_len (t : List Nat) (A j : Nat) : (pyl t A j).length = j := by unfold pyl; simp
theorem pyl_by (t : List Nat) (A j : Nat) : By (pyl t A j) := by
  intro x hx
  unfold pyl at hx
  obtain ⟨i, _, rfl⟩ := List.mem_map.1 hx
  exact num_lt _ _ 8
theorem pay_next {wb wr w1 : World} {t : List Nat} {A j : Nat} {v v' : Value} {o : Obj} (h : PayRel wb t A j v wr) (hown : w1.ownsRow wb.heap.size 5 1 v' (j + 1) ((pyl t A j).map nv ++ [nv (num (bt t) (A + 8 * j) 8)])) (hg : (wr.alloc o).grownBy w1 v.ownBlock) : PayRel wb t A (j + 1) v' w1 := by
  refine ⟨?_, fun e => by omega, own_step h.2.2 h.1 hg⟩
  rw [pyl_next, List.map_append]
  exact hown
theorem pay_keep {wb wr w1 : World} {t : List Nat} {A j : Nat} {v : Value} (h : PayRel wb t A j v wr) (g : wr.grownBy w1 none) : PayRel wb t A j v w1 :=
  ⟨h.1.kept g (by cases hv : v.ownBlock <;> simp), h.2.1, grown_trans h.2.2 g⟩
theorem pay_conv {wb w : World} {t : List Nat} {A j : Nat} {v : Value} (h : PayRel wb t A j v w) : (convert 23 9 v).run Tryd.prog w = .ok (.string (bs (pyl t A j))) w := by
  by_cases h0 : j = 0
  · rw [h.2.1 h0]
    subst h0
    exact conv_nv (l := pyl t A 0) (q := fun _ => True) (pyl_by t A 0) rfl (Rd.nil_ _ _ _ _) (fun _ => rfl)
  · obtain ⟨g, cap, rfl, _⟩ := own_form h.1 (by omega)
    have hr := rd_of_own h.1
    exact conv_nv (pyl_by t A j) (pyl_len t A j).symm hr (by simp)
/-- The error behind the header. -/
def cErr (t : List Nat) (K sz : Nat) : Int := if num (bt t) K 16 ≠ chk (bt t) K then 23 else if num (bt t) (K + 16) (8 * sz - (K + 16)) ≠ 0 then 24 else 0
theorem dec_rest {l t : List Nat} {V : Nat → Nat} {n sz K : Nat} (ht : t = l.take 128) (hs : sz ≤ 81) (hl : sz ≤ l.length) (hK : K = 49 + n + 8 * V 9) (hKs : K + 16 ≤ 8 * sz) :
    restV V n (l.take sz) = if cErr t K sz = 0 then (rcells V (n : Int) (num (bt t) 49 n) (bs (pyl t (49 + n) (V 9))), 0) else (zpk, cErr t K sz) := by
  have bb : ∀ i, i < 8 * sz → bt (l.take sz) i = bt t i := fun i hi => by rw [ht, bt_take hi, bt_take (by omega)]
  have e1 : ∀ a k, a + k ≤ 8 * sz → num (bt (l.take sz)) a k = num (bt t) a k := fun a k h => num_congr k fun i hi => bb _ (by omega)
  have e2 : chk (bt (l.take sz)) K = chk (bt t) K := chk_same _ fun i hi => bb i (by omega)
  have e3 : (l.take sz).length = sz := by rw [List.length_take]; omega
  have hE : restE (l.take sz) n (V 9) = cErr t K sz := by
    unfold restE cErr
    rw [← hK, e1 K 16 hKs, e2, e3, e1 (K + 16) (8 * sz - (K + 16)) (by omega)]
  have hP : restP (l.take sz) n (V 9) = bs (pyl t (49 + n) (V 9)) := by
    unfold restP
    refine congrArg bs ?_
    unfold pz pyl
    refine List.map_congr_left ?_
    intro j hj
    have hj := List.mem_range.1 hj
    unfold py
    refine num_congr 8 fun i hi => ?_
    have : decide (8 * j + i < 8 * V 9) = true := by simpa using (by omega : 8 * j + i < 8 * V 9)
    rw [this, Bool.true_and]
    show bt (l.take sz) (49 + n + (8 * j + i)) = _
    rw [bb _ (by omega)]
    exact congrArg (bt t) (by omega)
  unfold restV
  rw [hE, hP, e1 49 n (by omega)]
end Go.Proofs.YtpombmpkccnefaaDoor

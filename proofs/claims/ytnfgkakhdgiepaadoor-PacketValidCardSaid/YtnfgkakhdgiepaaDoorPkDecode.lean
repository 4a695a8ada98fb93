/- packet: Decode. -/
import Derived.Test.YtnfgkakhdgiepaaDoorPkRest
import Derived.Deep.CutRange
namespace Go.Proofs.YtnfgkakhdgiepaaDoor
open Go.RowKit Bs
set_option maxRecDepth 100000 in
theorem rd_take {w : World} {q : Nat → Prop} {p : Option Addr} {c : Nat} {l : List Nat} (k : Nat) (hk : k ≤ l.length) (hR : Rd w q (.slice p l.length c) (l.map nv)) (c' : Nat) : Rd w q (.slice p (l.take k).length c') ((l.take k).map nv) := by
  obtain ⟨p1, c1, hv, hc⟩ := hR
  injection hv with h1 _ _
  subst h1
  refine ⟨p, c', by rw [List.length_map], fun hne => ?_⟩
  have hl : l.map nv ≠ [] := by
    intro e
    have e2 : l = [] := List.map_eq_nil_iff.1 e
    subst e2
    exact hne (by simp)
  obtain ⟨b, off, hp, hb, hx⟩ := hc hl
  refine ⟨b, off, hp, hb, fun i x hi => hx i x ?_⟩
  rw [List.map_take] at hi
  have hik : i < k := by
    have := (List.getElem?_eq_some_iff.1 hi).1
    rw [List.length_take] at this; omega
  rw [List.getElem?_take_of_lt hik] at hi
  exact hi
set_option maxRecDepth 100000 in
theorem grown_undrew {w w7 : World} (g : w.drew.grownBy w7 none) : w.grownBy w7 none := ⟨g.os, g.tape, g.output, g.size, g.block⟩
set_option maxRecDepth 100000 in
theorem zp_after {w w5 : World} (g : (w.alloc (.cells zpk 25)).drew.grownBy w5 none) : w5.heap[w.heap.size]? = some (.cells zpk 25 (0, 0)) :=
  kept_row (heap_alloc_new w _) (grown_undrew g) (by simp)
/-- The fields of the header. -/
def hv7 (l : List Nat) : Nat → Nat := fv (l.take 7)
def szV (V : Nat → Nat) : Nat := (49 + 8 * 2 ^ V 4 + 8 * V 9 + 16 + 7) / 8
/-- What Decode returns. -/
def decV (l : List Nat) : Array Value × Int :=
  if l.length < 7 then (zpk, 20) else if misV (hv7 l) ≠ 0 then (zpk, misV (hv7 l)) else if l.length < szV (hv7 l) then (zpk, 20) else
    if (restV (hv7 l) (8 * 2 ^ hv7 l 4) (l.take (szV (hv7 l)))).2 ≠ 0 then (zpk, (restV (hv7 l) (8 * 2 ^ hv7 l 4) (l.take (szV (hv7 l)))).2) else if szV (hv7 l) < l.length then (zpk, 21) else
      ((restV (hv7 l) (8 * 2 ^ hv7 l 4) (l.take (szV (hv7 l)))).1, 0)
set_option maxRecDepth 100000 in
set_option maxHeartbeats 3200000 in
theorem pdecode_any (l : List Nat) (hl : By l) (p : Option Addr) (c : Nat) (hc : l.length ≤ c) (q : Nat → Prop) (w : World) (hR : Rd w q (.slice p l.length c) (l.map nv)) :
    Calls Tryd.prog 26 #[.slice p l.length c] w fun e w' => e = .returned (.tuple #[.agg (decV l).1, .int .i64 (decV l).2]) ∧ w.grownBy w' none := by
  obtain ⟨k1, k2⟩ := one_box w zpk 25
  have HB := Lib.hid (And.intro k1 k2)
  have HR := Lib.hid (hR.keep k2)
  clear k1 k2 hR
  unfold zpk at HB HR
  go_enter Tryd.func26, Tryd.ntmps26
  go_wp2_with fail
  generalize w.alloc _ = wa at *
  change Hid (wa.heap[w.heap.size]? = some (.cells zpk 25 (0, 0)) ∧ w.grownBy wa none) at HB
  refine (wholeBytes_any 49 (by decide) _).mono ?_
  rintro e w' ⟨rfl, rfl⟩
  rw [show ((49 + 7) / 8 : Nat) = 7 from rfl]
  by_cases h7 : l.length < 7
  · have hE : Hid (decV l = (zpk, 20)) := Lib.hid (by unfold decV; rw [if_pos h7])
    obtain ⟨⟨r0, r1, r2, r3, r4, r5, r6, r7, r8, r9⟩, f0, f1, f2, f3, f4, f5, f6, f7, f8, f9⟩ := zp_cells HB.out.1
    go_wp2_with fail
    refine bodyPost_ret (res_packet_err rfl _ _ w.heap.size _ rfl rfl (pput_row _ _ _ _ _ _ _ _ _ _ HB.out.1)) rfl ?_
    exact ⟨by rw [hE.out]; rfl, grown_new HB.out.2 (pput_grown _ w.heap.size _ _ _ _ _ _ _ _ _ _) (Nat.le_refl _)⟩
  · have h7' : 7 ≤ l.length := by omega
    have h7c : 7 ≤ c := by omega
    go_wp2_with fail
    refine (wholeBytes_any 49 (by decide) _).mono ?_
    rintro e w' ⟨rfl, rfl⟩
    rw [show ((49 + 7) / 8 : Nat) = 7 from rfl]
    go_wp2_with fail
    have e7 : (l.take 7).length = 7 := by rw [List.length_take]; omega
    have hA := readHeader_any (l.take 7) (fun x hx => hl x (List.mem_of_mem_take hx)) (by rw [e7]; decide) q p c wa (rd_take 7 h7' HR.out c)
    rw [e7] at hA
    refine hA.mono ?_
    rintro e w2 ⟨rfl, hg⟩
    have HB2 := Lib.hid (And.intro (kept_row HB.out.1 hg (by simp)) (grown_trans HB.out.2 hg))
    have HR2 := Lib.hid (HR.out.keep hg)
    have HD : Hid (decV l = if misV (hv7 l) ≠ 0 then (zpk, misV (hv7 l)) else if l.length < szV (hv7 l) then (zpk, 20) else
      if (restV (hv7 l) (8 * 2 ^ hv7 l 4) (l.take (szV (hv7 l)))).2 ≠ 0 then (zpk, (restV (hv7 l) (8 * 2 ^ hv7 l 4) (l.take (szV (hv7 l)))).2) else if szV (hv7 l) < l.length then (zpk, 21) else
      ((restV (hv7 l) (8 * 2 ^ hv7 l 4) (l.take (szV (hv7 l)))).1, 0)) := Lib.hid (by unfold decV; rw [if_neg h7])
    have h4 : hv7 l 4 < 4 := num_lt _ _ 2
    have h9 : hv7 l 9 < 128 := num_lt _ _ 7
    clear hA hg HB HR e7
    change Hid (_ = _) at HD
    obtain ⟨V, hV⟩ : ∃ V, V = hv7 l := ⟨_, rfl⟩
    rw [← hV] at HD h4 h9
    rw [show fv (l.take 7) = V from hV.symm]
    obtain ⟨n, hn⟩ : ∃ n : Nat, n = 8 * 2 ^ V 4 := ⟨_, rfl⟩
    rw [← hn] at HD
    rw [show (8 * 2 ^ V 4 : Int) = (n : Int) by rw [hn]; simp]
    have hn64 : n ≤ 64 := by
      have : 2 ^ V 4 ≤ 2 ^ 3 := Nat.pow_le_pow_right (by decide) (by omega)
      omega
    have hsz : szV V = (49 + n + 8 * V 9 + 16 + 7) / 8 := by unfold szV; rw [← hn]
    clear hV hn
    have hvv : hval V (n : Int) = .agg #[.int .i64 (V 0 : Int), .int .i64 (V 1 : Int), .int .i64 (V 2 : Int), .int .i64 (V 3 : Int), .int .i64 (n : Int), .int .i64 (V 5 : Int), .int .i64 (V 6 : Int), .int .i64 (V 7 : Int), .int .i64 (V 8 : Int), .int .u64 0, .string ⟨#[]⟩, .int .i64 (V 4 : Int), .int .i64 (V 9 : Int)] := rfl
    rw [hvv]
    have HH := Lib.hid (heap_alloc_new w2 (.cells #[.int .i64 (V 0 : Int), .int .i64 (V 1 : Int), .int .i64 (V 2 : Int), .int .i64 (V 3 : Int), .int .i64 (n : Int), .int .i64 (V 5 : Int), .int .i64 (V 6 : Int), .int .i64 (V 7 : Int), .int .i64 (V 8 : Int), .int .u64 0, .string ⟨#[]⟩, .int .i64 (V 4 : Int), .int .i64 (V 9 : Int)] 101))
    have HG := Lib.hid (World.grownBy_alloc w2 (.cells #[.int .i64 (V 0 : Int), .int .i64 (V 1 : Int), .int .i64 (V 2 : Int), .int .i64 (V 3 : Int), .int .i64 (n : Int), .int .i64 (V 5 : Int), .int .i64 (V 6 : Int), .int .i64 (V 7 : Int), .int .i64 (V 8 : Int), .int .u64 0, .string ⟨#[]⟩, .int .i64 (V 4 : Int), .int .i64 (V 9 : Int)] 101) none)
    have HSZ := Lib.hid hsz
    clear hvv hsz
    go_wp2_with fail
    generalize w2.alloc _ = w3 at *
    change Hid (w3.heap[w2.heap.size]? = some (.cells (hdc V 10 (n : Int)) 101 (0, 0))) at HH
    have HB3 := Lib.hid (And.intro (kept_row HB2.out.1 HG.out (by simp)) (grown_trans HB2.out.2 HG.out))
    have HR3 := Lib.hid (HR2.out.keep HG.out)
    clear HB2 HR2 HG
    refine (mistake_any V (n : Int) w2.heap.size w3 HH.out).mono ?_
    rintro e w' ⟨rfl, rfl⟩
    obtain ⟨m, hm⟩ : ∃ m, m = misV V := ⟨_, rfl⟩
    rw [← hm] at HD ⊢
    have HM := Lib.hid hm
    clear hm
    by_cases hm0 : m = 0
    · have h64 : V 9 ≤ 64 := by
        have h := HM.out
        rw [hm0] at h
        unfold misV at h
        split at h
        · cases h
        · split at h
          · cases h
          · split at h
            · cases h
            · omega
      subst hm0
      have b4 : w3.cell? ⟨w2.heap.size, 4, none⟩ = some (.int .i64 (n : Int)) := cell_of_row _ _ _ _ _ _ HH.out
      have b9 : w3.cell? ⟨w2.heap.size, 12, none⟩ = some (.int .i64 (V 9 : Int)) := cell_of_row _ _ _ _ _ _ HH.out
      go_wp2_with fail
      refine (bytesForP_any n (V 9) (by omega) (by omega) _).mono ?_
      rintro e w' ⟨rfl, rfl⟩
      rw [← HSZ.out]
      have hs200 : szV V ≤ 200 := by rw [HSZ.out]; omega
      obtain ⟨z, hz⟩ : ∃ z, z = szV V := ⟨_, rfl⟩
      rw [← hz] at HD hs200 ⊢
      have HZ := Lib.hid hz
      clear hz b4 b9
      by_cases hlz : l.length < z
      · have hE : Hid (decV l = (zpk, 20)) := Lib.hid (by rw [HD.out, if_neg (by simp), if_pos hlz])
        obtain ⟨⟨r0, r1, r2, r3, r4, r5, r6, r7, r8, r9⟩, f0, f1, f2, f3, f4, f5, f6, f7, f8, f9⟩ := zp_cells HB3.out.1
        go_wp2_with fail
        refine bodyPost_ret (res_packet_err rfl _ _ w.heap.size _ rfl rfl (pput_row _ _ _ _ _ _ _ _ _ _ HB3.out.1)) rfl ?_
        exact ⟨by rw [hE.out]; rfl, grown_new HB3.out.2 (pput_grown _ w.heap.size _ _ _ _ _ _ _ _ _ _) (Nat.le_refl _)⟩
      · have hzc : z ≤ c := by omega
        have hzl : z ≤ l.length := by omega
        obtain ⟨d0, d1, d2, d3, d4, d5, d6, d7, d8, d9, d10, d11, d12⟩ : w3.cell? ⟨w2.heap.size, 0, none⟩ = some (.int .i64 (V 0 : Int)) ∧ w3.cell? ⟨w2.heap.size, 1, none⟩ = some (.int .i64 (V 1 : Int)) ∧ w3.cell? ⟨w2.heap.size, 2, none⟩ = some (.int .i64 (V 2 : Int)) ∧ w3.cell? ⟨w2.heap.size, 3, none⟩ = some (.int .i64 (V 3 : Int)) ∧ w3.cell? ⟨w2.heap.size, 4, none⟩ = some (.int .i64 (n : Int)) ∧ w3.cell? ⟨w2.heap.size, 5, none⟩ = some (.int .i64 (V 5 : Int)) ∧ w3.cell? ⟨w2.heap.size, 6, none⟩ = some (.int .i64 (V 6 : Int)) ∧ w3.cell? ⟨w2.heap.size, 7, none⟩ = some (.int .i64 (V 7 : Int)) ∧ w3.cell? ⟨w2.heap.size, 8, none⟩ = some (.int .i64 (V 8 : Int)) ∧ w3.cell? ⟨w2.heap.size, 9, none⟩ = some (.int .u64 0) ∧ w3.cell? ⟨w2.heap.size, 10, none⟩ = some (.string ⟨#[]⟩) ∧ w3.cell? ⟨w2.heap.size, 11, none⟩ = some (.int .i64 (V 4 : Int)) ∧ w3.cell? ⟨w2.heap.size, 12, none⟩ = some (.int .i64 (V 9 : Int)) := ⟨cell_of_row _ _ _ _ _ _ HH.out, cell_of_row _ _ _ _ _ _ HH.out, cell_of_row _ _ _ _ _ _ HH.out, cell_of_row _ _ _ _ _ _ HH.out, cell_of_row _ _ _ _ _ _ HH.out, cell_of_row _ _ _ _ _ _ HH.out, cell_of_row _ _ _ _ _ _ HH.out, cell_of_row _ _ _ _ _ _ HH.out, cell_of_row _ _ _ _ _ _ HH.out, cell_of_row _ _ _ _ _ _ HH.out, cell_of_row _ _ _ _ _ _ HH.out, cell_of_row _ _ _ _ _ _ HH.out, cell_of_row _ _ _ _ _ _ HH.out⟩
        go_wp2_with fail
        have ez : (l.take z).length = z := by rw [List.length_take]; omega
        obtain ⟨r, hr⟩ : ∃ r, r = restV V n (l.take z) := ⟨_, rfl⟩
        have HC : Hid (∀ w', w3.grownBy w' none → Calls Tryd.prog 83 #[.agg #[.int .i64 (V 0 : Int), .int .i64 (V 1 : Int), .int .i64 (V 2 : Int), .int .i64 (V 3 : Int), .int .i64 (n : Int), .int .i64 (V 5 : Int), .int .i64 (V 6 : Int), .int .i64 (V 7 : Int), .int .i64 (V 8 : Int), .int .u64 0, .string ⟨#[]⟩, .int .i64 (V 4 : Int), .int .i64 (V 9 : Int)], .slice p z c] w' fun e w'' => e = .returned (.tuple #[.agg r.1, .int .i64 r.2]) ∧ w'.grownBy w'' none) := Lib.hid fun w' hg => by
          have h := readRest_any V n hn64 h64 (l.take z) (fun x hx => hl x (List.mem_of_mem_take hx)) (by rw [ez, HZ.out, HSZ.out]) q p c w' (rd_take z hzl (HR3.out.keep hg) c)
          rw [ez, ← hr] at h
          exact h
        have hr2 : (∃ b s, r = (rcells V (n : Int) b s, 0)) ∨ (∃ x, x ≠ 0 ∧ r = (zpk, x)) := by
          rw [hr]; unfold restV
          split
          · exact .inl ⟨_, _, rfl⟩
          · rename_i hx; exact .inr ⟨_, hx, rfl⟩
        rw [← hr] at HD
        clear hr
        have hHZ : (w3.alloc (.cells #[.int .i64 0, .int .i64 0, .int .i64 0, .int .i64 0, .int .i64 0, .int .i64 0, .int .i64 0, .int .i64 0, .int .u64 0, .string ⟨#[]⟩] 25)).heap[w2.heap.size]? = some (.cells (hdc V 10 (n : Int)) 101 (0, 0)) := kept_row HH.out (World.grownBy_alloc w3 _ none) (by simp)
        obtain ⟨i0, i1, i2, i3, i4, i5, i6, i7, i8, i9, i10, i11, i12⟩ : (w3.alloc (.cells #[.int .i64 0, .int .i64 0, .int .i64 0, .int .i64 0, .int .i64 0, .int .i64 0, .int .i64 0, .int .i64 0, .int .u64 0, .string ⟨#[]⟩] 25)).cell? ⟨w2.heap.size, 0, none⟩ = some (.int .i64 (V 0 : Int)) ∧ (w3.alloc (.cells #[.int .i64 0, .int .i64 0, .int .i64 0, .int .i64 0, .int .i64 0, .int .i64 0, .int .i64 0, .int .i64 0, .int .u64 0, .string ⟨#[]⟩] 25)).cell? ⟨w2.heap.size, 1, none⟩ = some (.int .i64 (V 1 : Int)) ∧ (w3.alloc (.cells #[.int .i64 0, .int .i64 0, .int .i64 0, .int .i64 0, .int .i64 0, .int .i64 0, .int .i64 0, .int .i64 0, .int .u64 0, .string ⟨#[]⟩] 25)).cell? ⟨w2.heap.size, 2, none⟩ = some (.int .i64 (V 2 : Int)) ∧ (w3.alloc (.cells #[.int .i64 0, .int .i64 0, .int .i64 0, .int .i64 0, .int .i64 0, .int .i64 0, .int .i64 0, .int .i64 0, .int .u64 0, .string ⟨#[]⟩] 25)).cell? ⟨w2.heap.size, 3, none⟩ = some (.int .i64 (V 3 : Int)) ∧ (w3.alloc (.cells #[.int .i64 0, .int .i64 0, .int .i64 0, .int .i64 0, .int .i64 0, .int .i64 0, .int .i64 0, .int .i64 0, .int .u64 0, .string ⟨#[]⟩] 25)).cell? ⟨w2.heap.size, 4, none⟩ = some (.int .i64 (n : Int)) ∧ (w3.alloc (.cells #[.int .i64 0, .int .i64 0, .int .i64 0, .int .i64 0, .int .i64 0, .int .i64 0, .int .i64 0, .int .i64 0, .int .u64 0, .string ⟨#[]⟩] 25)).cell? ⟨w2.heap.size, 5, none⟩ = some (.int .i64 (V 5 : Int)) ∧ (w3.alloc (.cells #[.int .i64 0, .int .i64 0, .int .i64 0, .int .i64 0, .int .i64 0, .int .i64 0, .int .i64 0, .int .i64 0, .int .u64 0, .string ⟨#[]⟩] 25)).cell? ⟨w2.heap.size, 6, none⟩ = some (.int .i64 (V 6 : Int)) ∧ (w3.alloc (.cells #[.int .i64 0, .int .i64 0, .int .i64 0, .int .i64 0, .int .i64 0, .int .i64 0, .int .i64 0, .int .i64 0, .int .u64 0, .string ⟨#[]⟩] 25)).cell? ⟨w2.heap.size, 7, none⟩ = some (.int .i64 (V 7 : Int)) ∧ (w3.alloc (.cells #[.int .i64 0, .int .i64 0, .int .i64 0, .int .i64 0, .int .i64 0, .int .i64 0, .int .i64 0, .int .i64 0, .int .u64 0, .string ⟨#[]⟩] 25)).cell? ⟨w2.heap.size, 8, none⟩ = some (.int .i64 (V 8 : Int)) ∧ (w3.alloc (.cells #[.int .i64 0, .int .i64 0, .int .i64 0, .int .i64 0, .int .i64 0, .int .i64 0, .int .i64 0, .int .i64 0, .int .u64 0, .string ⟨#[]⟩] 25)).cell? ⟨w2.heap.size, 9, none⟩ = some (.int .u64 0) ∧ (w3.alloc (.cells #[.int .i64 0, .int .i64 0, .int .i64 0, .int .i64 0, .int .i64 0, .int .i64 0, .int .i64 0, .int .i64 0, .int .u64 0, .string ⟨#[]⟩] 25)).cell? ⟨w2.heap.size, 10, none⟩ = some (.string ⟨#[]⟩) ∧ (w3.alloc (.cells #[.int .i64 0, .int .i64 0, .int .i64 0, .int .i64 0, .int .i64 0, .int .i64 0, .int .i64 0, .int .i64 0, .int .u64 0, .string ⟨#[]⟩] 25)).cell? ⟨w2.heap.size, 11, none⟩ = some (.int .i64 (V 4 : Int)) ∧ (w3.alloc (.cells #[.int .i64 0, .int .i64 0, .int .i64 0, .int .i64 0, .int .i64 0, .int .i64 0, .int .i64 0, .int .i64 0, .int .u64 0, .string ⟨#[]⟩] 25)).cell? ⟨w2.heap.size, 12, none⟩ = some (.int .i64 (V 9 : Int)) := ⟨cell_of_row _ _ _ _ _ _ hHZ, cell_of_row _ _ _ _ _ _ hHZ, cell_of_row _ _ _ _ _ _ hHZ, cell_of_row _ _ _ _ _ _ hHZ, cell_of_row _ _ _ _ _ _ hHZ, cell_of_row _ _ _ _ _ _ hHZ, cell_of_row _ _ _ _ _ _ hHZ, cell_of_row _ _ _ _ _ _ hHZ, cell_of_row _ _ _ _ _ _ hHZ, cell_of_row _ _ _ _ _ _ hHZ, cell_of_row _ _ _ _ _ _ hHZ, cell_of_row _ _ _ _ _ _ hHZ, cell_of_row _ _ _ _ _ _ hHZ⟩
        clear hHZ
        rcases hr2 with ⟨b, s, rfl⟩ | ⟨x, hx, rfl⟩
        · have HC2 := Lib.hid HC.out
          clear HC
          dsimp only at HC2
          unfold rcells at HC2
          go_cut [7, 8] from 34 to 41 (fun pp ee wx => ∃ g, pp = .pointer (some ⟨g, 0, none⟩) ∧ ee = .int .i64 (0) ∧ Hid (wx.heap[g]? = some (.cells (rcells V (n : Int) b s) 25 (0, 0)) ∧ wx.heap[w.heap.size]? = some (.cells zpk 25 (0, 0)) ∧ w.grownBy wx none))
          case first =>
            go_region_law (first
              | (go_simp; go_at_call 83; refine (HC2.out _ ?_).mono ?_; (focus (repeat (first | (with_reducible exact grown_refl _ _) | apply grown_drew | (with_reducible exact World.grownBy_alloc _ _ _)))); rintro e w5 ⟨rfl, hap⟩; have G5 : Hid (w3.grownBy w5 none) := (by refine Lib.hid (grown_trans ?_ hap); repeat (first | (with_reducible exact grown_refl _ _) | apply grown_drew | (with_reducible exact World.grownBy_alloc _ _ _))); first | (have ZZ := zp_after hap; have ZR := Lib.hid ZZ; obtain ⟨⟨r0, r1, r2, r3, r4, r5, r6, r7, r8, r9⟩, f0, f1, f2, f3, f4, f5, f6, f7, f8, f9⟩ := zp_cells ZZ; clear ZZ) | skip))
            all_goals
              go_wp2_with fail
              go_meet
              first
                | (refine ⟨w3.heap.size, by with_reducible rfl, by with_reducible rfl, ?_⟩; exact Lib.hid ⟨pput_row (w := w5) (h := w3.heap.size) _ _ _ _ _ _ _ _ _ _ ZR.out, kept_row (kept_row HB3.out.1 G5.out (by simp)) (pput_grown w5 w3.heap.size _ _ _ _ _ _ _ _ _ _) (fun e => by have h1 := World.lt_of_row' HB3.out.1; have := Option.some.inj e; omega), grown_new (grown_trans HB3.out.2 G5.out) (pput_grown w5 w3.heap.size _ _ _ _ _ _ _ _ _ _) (HB3.out.2.size)⟩)
                | (refine ⟨w5.heap.size, by with_reducible rfl, by with_reducible rfl, ?_⟩; exact Lib.hid ⟨heap_alloc_new w5 _, kept_row HB3.out.1 (grown_trans G5.out (World.grownBy_alloc w5 _ none)) (by simp), grown_trans HB3.out.2 (grown_trans G5.out (World.grownBy_alloc w5 _ none))⟩)
          case rest =>
            obtain ⟨g, rfl, rfl, HW⟩ := hcut
            clear d0 d1 d2 d3 d4 d5 d6 d7 d8 d9 d10 d11 d12 i0 i1 i2 i3 i4 i5 i6 i7 i8 i9 i10 i11 i12 HC2
            obtain ⟨⟨r0, r1, r2, r3, r4, r5, r6, r7, r8, r9⟩, f0, f1, f2, f3, f4, f5, f6, f7, f8, f9⟩ := zp_cells HW.out.2.1
            by_cases hlong : z < l.length
            · have hE : Hid (decV l = (zpk, 21)) := Lib.hid (by rw [HD.out, if_neg (by simp), if_neg hlz, if_neg (by simp), if_pos hlong])
              go_wp2_with fail
              refine bodyPost_ret (res_packet_err rfl _ _ w.heap.size _ rfl rfl (pput_row _ _ _ _ _ _ _ _ _ _ HW.out.2.1)) rfl ?_
              exact ⟨by rw [hE.out]; rfl, grown_new HW.out.2.2 (pput_grown _ w.heap.size _ _ _ _ _ _ _ _ _ _) (Nat.le_refl _)⟩
            · have hE : Hid (decV l = (rcells V (n : Int) b s, 0)) := Lib.hid (by rw [HD.out, if_neg (by simp), if_neg hlz, if_neg (by simp), if_neg hlong])
              obtain ⟨q0, q1, q2, q3, q4, q5, q6, q7, q8, q9⟩ := rc_cells HW.out.1
              go_wp2_with fail
              refine bodyPost_ret (res_packet_err rfl _ _ w.heap.size _ rfl rfl (pput_row _ _ _ _ _ _ _ _ _ _ HW.out.2.1)) rfl ?_
              exact ⟨by rw [hE.out]; rfl, grown_new HW.out.2.2 (pput_grown _ w.heap.size _ _ _ _ _ _ _ _ _ _) (Nat.le_refl _)⟩
        · have HC2 := Lib.hid HC.out
          clear HC
          dsimp only at HC2
          unfold zpk at HC2
          go_cut [7, 8] from 34 to 41 (fun pp ee wx => ∃ g, pp = .pointer (some ⟨g, 0, none⟩) ∧ ee = .int .i64 (x) ∧ Hid (wx.heap[g]? = some (.cells (zpk) 25 (0, 0)) ∧ wx.heap[w.heap.size]? = some (.cells zpk 25 (0, 0)) ∧ w.grownBy wx none))
          case first =>
            go_region_law (first
              | (go_simp; go_at_call 83; refine (HC2.out _ ?_).mono ?_; (focus (repeat (first | (with_reducible exact grown_refl _ _) | apply grown_drew | (with_reducible exact World.grownBy_alloc _ _ _)))); rintro e w5 ⟨rfl, hap⟩; have G5 : Hid (w3.grownBy w5 none) := (by refine Lib.hid (grown_trans ?_ hap); repeat (first | (with_reducible exact grown_refl _ _) | apply grown_drew | (with_reducible exact World.grownBy_alloc _ _ _))); first | (have ZZ := zp_after hap; have ZR := Lib.hid ZZ; obtain ⟨⟨r0, r1, r2, r3, r4, r5, r6, r7, r8, r9⟩, f0, f1, f2, f3, f4, f5, f6, f7, f8, f9⟩ := zp_cells ZZ; clear ZZ) | skip))
            all_goals
              go_wp2_with fail
              go_meet
              first
                | (refine ⟨w3.heap.size, by with_reducible rfl, by with_reducible rfl, ?_⟩; exact Lib.hid ⟨pput_row (w := w5) (h := w3.heap.size) _ _ _ _ _ _ _ _ _ _ ZR.out, kept_row (kept_row HB3.out.1 G5.out (by simp)) (pput_grown w5 w3.heap.size _ _ _ _ _ _ _ _ _ _) (fun e => by have h1 := World.lt_of_row' HB3.out.1; have := Option.some.inj e; omega), grown_new (grown_trans HB3.out.2 G5.out) (pput_grown w5 w3.heap.size _ _ _ _ _ _ _ _ _ _) (HB3.out.2.size)⟩)
                | (refine ⟨w5.heap.size, by with_reducible rfl, by with_reducible rfl, ?_⟩; exact Lib.hid ⟨heap_alloc_new w5 _, kept_row HB3.out.1 (grown_trans G5.out (World.grownBy_alloc w5 _ none)) (by simp), grown_trans HB3.out.2 (grown_trans G5.out (World.grownBy_alloc w5 _ none))⟩)
          case rest =>
            obtain ⟨g, rfl, rfl, HW⟩ := hcut
            clear d0 d1 d2 d3 d4 d5 d6 d7 d8 d9 d10 d11 d12 i0 i1 i2 i3 i4 i5 i6 i7 i8 i9 i10 i11 i12 HC2
            obtain ⟨⟨r0, r1, r2, r3, r4, r5, r6, r7, r8, r9⟩, f0, f1, f2, f3, f4, f5, f6, f7, f8, f9⟩ := zp_cells HW.out.2.1
            have hE : Hid (decV l = (zpk, x)) := Lib.hid (by rw [HD.out, if_neg (by simp), if_neg hlz, if_pos hx])
            have hxb : (x != 0) = true := by simpa using hx
            go_wp2_with fail
            refine bodyPost_ret (res_packet_err rfl _ _ w.heap.size _ rfl rfl (pput_row _ _ _ _ _ _ _ _ _ _ HW.out.2.1)) rfl ?_
            exact ⟨by rw [hE.out]; rfl, grown_new HW.out.2.2 (pput_grown _ w.heap.size _ _ _ _ _ _ _ _ _ _) (Nat.le_refl _)⟩
    · have hE : Hid (decV l = (zpk, m)) := Lib.hid (by rw [HD.out, if_pos hm0])
      have hmb : (m != 0) = true := by simpa using hm0
      obtain ⟨⟨r0, r1, r2, r3, r4, r5, r6, r7, r8, r9⟩, f0, f1, f2, f3, f4, f5, f6, f7, f8, f9⟩ := zp_cells HB3.out.1
      go_wp2_with fail
      refine bodyPost_ret (res_packet_err rfl _ _ w.heap.size _ rfl rfl (pput_row _ _ _ _ _ _ _ _ _ _ HB3.out.1)) rfl ?_
      exact ⟨by rw [hE.out]; rfl, grown_new HB3.out.2 (pput_grown _ w.heap.size _ _ _ _ _ _ _ _ _ _) (Nat.le_refl _)⟩
end Go.Proofs.YtnfgkakhdgiepaaDoor

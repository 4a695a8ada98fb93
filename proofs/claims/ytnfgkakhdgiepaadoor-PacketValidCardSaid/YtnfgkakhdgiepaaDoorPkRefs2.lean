/- packet: the reference's Size and Plane. -/
import Derived.Test.YtnfgkakhdgiepaaDoorPkRefs
namespace Go.Proofs.YtnfgkakhdgiepaaDoor
open Go.RowKit Bs
set_option maxRecDepth 100000 in
set_option maxHeartbeats 3200000 in
theorem rsize_any (P : Pk) (hP : P.Wf) (w : World) :
    Calls Tryd.prog 19 #[P.val] w fun e w' => e = .returned (.int .i64 ((sizeV P : Nat) : Int)) ∧ w.grownBy w' none := by
  have hval : P.val = .agg #[.int .i64 P.mode, .int .i64 P.sub, .int .i64 P.set, .int .i64 P.len, .int .i64 P.ttl, .int .i64 P.ent, .int .i64 P.ing, .int .i64 P.pro, .int .u64 (P.bits : Int), .string P.pay] := rfl
  rw [hval]
  go_enter Tryd.func19, Tryd.ntmps19
  go_wp2_with fail
  obtain ⟨k1, k2⟩ := one_box w (pcells P) 25
  have HP := Lib.hid (And.intro k1 k2)
  clear k1 k2
  unfold pcells at HP
  generalize w.alloc _ = wa at *
  change Hid (wa.heap[w.heap.size]? = some (.cells (pcells P) 25 (0, 0)) ∧ w.grownBy wa none) at HP
  rw [← hval]
  refine (rvalid_any P hP _).mono ?_
  rintro e w1 ⟨rfl, hg⟩
  have HQ := Lib.hid (And.intro (kept_row HP.out.1 hg (by simp)) (grown_trans HP.out.2 hg))
  clear hg HP
  by_cases hv : vpk P = true
  · have hE : Hid (sizeV P = (49 + P.len.toNat + 8 * P.pay.size + 16 + 7) / 8) := Lib.hid (by unfold sizeV; rw [if_pos hv])
    obtain ⟨hn, hn2⟩ := vpk_len hv
    have hp := (vpk_parts hv).2.2.2.2.2.2.2.1
    have HN := Lib.hid hn
    rw [hv]
    clear hv hn
    obtain ⟨_, _, _, a3, _, _, _, _, _, a9⟩ := p_facts HQ.out.1
    go_wp2_with fail
    rw [HN.out]
    refine (rsz_any P.len.toNat P.pay.size (by omega) (by omega) _).mono ?_
    rintro e w' ⟨rfl, rfl⟩
    rw [← hE.out]
    go_wp2_with fail
    go_ret
    exact ⟨rfl, HQ.out.2⟩
  · have hf : vpk P = false := by simpa using hv
    have hE : Hid (sizeV P = 0) := Lib.hid (by unfold sizeV; rw [if_neg hv])
    rw [hf]
    clear hf hv
    go_wp2_with fail
    go_ret
    exact ⟨by rw [hE.out]; rfl, HQ.out.2⟩
set_option maxRecDepth 100000 in
theorem rplane_any (P : Pk) (hP : P.Wf) (w : World) :
    Calls Tryd.prog 21 #[P.val] w fun e w' => e = .returned (.int .i64 (planeV P)) ∧ w.grownBy w' none := by
  have hval : P.val = .agg #[.int .i64 P.mode, .int .i64 P.sub, .int .i64 P.set, .int .i64 P.len, .int .i64 P.ttl, .int .i64 P.ent, .int .i64 P.ing, .int .i64 P.pro, .int .u64 (P.bits : Int), .string P.pay] := rfl
  rw [hval]
  go_enter Tryd.func21, Tryd.ntmps21
  go_wp2_with fail
  obtain ⟨k1, k2⟩ := one_box w (pcells P) 25
  have HP := Lib.hid (And.intro k1 k2)
  clear k1 k2
  unfold pcells at HP
  generalize w.alloc _ = wa at *
  change Hid (wa.heap[w.heap.size]? = some (.cells (pcells P) 25 (0, 0)) ∧ w.grownBy wa none) at HP
  rw [← hval]
  refine (rvalid_any P hP _).mono ?_
  rintro e w1 ⟨rfl, hg⟩
  have HQ := Lib.hid (And.intro (kept_row HP.out.1 hg (by simp)) (grown_trans HP.out.2 hg))
  clear hg HP
  by_cases hv : vpk P = true
  · have hE : Hid (planeV P = P.ent % 8) := Lib.hid (by unfold planeV; rw [if_pos hv])
    have he := (vpk_parts hv).2.2.2.2.1
    obtain ⟨he1, he2⟩ := he
    rw [hv]
    clear hv
    obtain ⟨_, _, _, _, _, a5, _⟩ := p_facts HQ.out.1
    go_wp2_with fail
    go_ret
    exact ⟨by rw [hE.out]; rfl, HQ.out.2⟩
  · have hf : vpk P = false := by simpa using hv
    have hE : Hid (planeV P = 0) := Lib.hid (by unfold planeV; rw [if_neg hv])
    rw [hf]
    clear hf hv
    go_wp2_with fail
    go_ret
    exact ⟨by rw [hE.out]; rfl, HQ.out.2⟩
end Go.Proofs.YtnfgkakhdgiepaaDoor

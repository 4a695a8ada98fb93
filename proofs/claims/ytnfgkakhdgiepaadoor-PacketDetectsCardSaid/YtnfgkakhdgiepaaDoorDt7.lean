/- Parts of the proof, packed: IoCheckR, PkBox, PkRest, PkDecode. -/
import Derived.Test.YtnfgkakhdgiepaaDoorDt4
import Derived.Lib.BufferRead
import Derived.Test.YtnfgkakhdgiepaaDoorDt6
import Derived.Deep.CutRange
/- The reference's check number; Same. -/
namespace Go.Proofs.YtnfgkakhdgiepaaDoor
open Go.RowKit Bs
set_option maxRecDepth 100000 in
theorem diff64 {r : Nat} {b : Bool} (hr : r < 65536) : ((r : Int) / 32768 != ((b.toNat : Nat) : Int)) = (r.testBit 15 != b) := by
  have e1 : ((r : Int) / 32768) = (((r.testBit 15).toNat : Nat) : Int) := by rw [← bit15 hr]; omega
  rw [e1, ne_bits]
set_option maxRecDepth 100000 in
theorem shift64 {r : Nat} (hr : r < 65536) : bits .and .u64 ((r : Int) * 2) 65535 = ((2 * r % 65536 : Nat) : Int) := by
  rw [show ((r : Int) * 2) = ((2 * r : Nat) : Int) by omega, show (65535 : Int) = ((2 ^ 16 - 1 : Nat) : Int) from rfl, andU _ _ (u64_mk (by omega)) (u64_mk (by decide)), Nat.and_two_pow_sub_one_eq_mod]
set_option maxRecDepth 100000 in
theorem xor64 {r : Nat} (hr : r < 65536) : bits .xor .u64 (bits .and .u64 ((r : Int) * 2) 65535) 4129 = (((2 * r % 65536) ^^^ 4129 : Nat) : Int) := by
  rw [shift64 hr, show (4129 : Int) = ((4129 : Nat) : Int) from rfl, u64_xor_nat _ _ (by omega) (by decide)]
set_option maxRecDepth 100000 in
set_option maxHeartbeats 3200000 in
theorem checkr_any (l : List Nat) (n : Int) (q : Nat → Prop) (p : Option Addr) (c : Nat) (hl : By l) (w : World) (hq : ∀ b, q b → b < w.heap.size) (hR : Rd w q (.slice p l.length c) (l.map nv)) :
    Calls Tryd.prog 76 #[.agg #[.slice p l.length c, .int .i64 n]] w fun e w' => CheckPost l n w e w' := by
  obtain ⟨k1, k2⟩ := one_box w #[.slice p l.length c, .int .i64 n] 91
  have H0 := Lib.hid (And.intro k1 k2)
  have hR1 := hR.keep k2
  have hq1 : ∀ b, q b → b < (w.alloc (.cells #[.slice p l.length c, .int .i64 n] 91)).heap.size := fun b hb => Nat.lt_of_lt_of_le (hq b hb) k2.size
  clear k1 k2 hR
  go_enter Tryd.func76, Tryd.ntmps76
  go_wp2_with fail
  generalize w.alloc (.cells #[.slice p l.length c, .int .i64 n] 91) = w1 at *
  refine (validr_any l n q p c hl _ hq1 hR1).mono ?_
  rintro e w2 ⟨rfl, hg⟩
  have hrow := kept_row H0.out.1 hg (by simp)
  obtain ⟨c0, c1⟩ := row_cells hrow
  have HG := Lib.hid (grown_trans H0.out.2 hg)
  have hR2 := hR1.keep hg
  clear hrow hg hR1 H0 hq1
  by_cases hv : vs l n = true
  · obtain ⟨N, rfl⟩ := vs_nat hv
    obtain ⟨hN, hlen⟩ := vs_bits hv
    rw [hv]
    have V := Lib.hid (chkV_ok hv)
    have HLEN := Lib.hid hlen
    clear hv hlen
    go_wp2_with fail
    go_loop [4, 5] (fun r i => ∃ j : Nat, j ≤ N ∧ i = .int .i64 (j : Int) ∧ r = .int .u64 ((chk (bt l) j : Nat) : Int)) (fun _ i => (N - (intOf i).toNat))
    case atStart => exact ⟨0, Nat.zero_le _, rfl, rfl⟩
    case round =>
      obtain ⟨j, hj, rfl, rfl⟩ := hrel
      have hrlt := chk_lt (bt l) j
      generalize hrr : chk (bt l) j = r at *
      have HRR := Lib.hid hrr
      clear hrr
      by_cases hlt : j < N
      · have C := bitr_any l j q p c hl (by have := HLEN.out; omega) (by omega) w2 hR2
        unfold bw at C
        have D := diff64 (b := bt l j) hrlt
        have HC : Hid (chk (bt l) (j + 1) = stp r (bt l j)) := by
          show chk (bt l) (j + 1) = _
          rw [chk, HRR.out]
        have H1 := Lib.hid C
        clear C
        generalize hbb : bt l j = b at *
        clear hbb
        by_cases hd : (r.testBit 15 != b) = true
        · rw [hd] at D
          have S : Hid (bits .xor .u64 (bits .and .u64 ((r : Int) * 2) 65535) 4129 = ((chk (bt l) (j + 1) : Nat) : Int)) := by
            show _ = _
            rw [HC.out, stp_diff hd, xor64 hrlt]
          generalize b.toNat = bn at *
          go_wp2_with (go_at_call 118; refine H1.out.mono ?_; rintro e w' ⟨rfl, rfl⟩)
          go_round
          case rel => exact ⟨j + 1, by omega, by go_num, by rw [S.out]⟩
          case measure => simp [intOf]; omega
        · have hd0 : (r.testBit 15 != b) = false := by simpa using hd
          rw [hd0] at D
          have S : Hid (bits .and .u64 ((r : Int) * 2) 65535 = ((chk (bt l) (j + 1) : Nat) : Int)) := by
            show _ = _
            rw [HC.out, stp_same hd0, shift64 hrlt]
          clear hd
          generalize b.toNat = bn at *
          go_wp2_with (go_at_call 118; refine H1.out.mono ?_; rintro e w' ⟨rfl, rfl⟩)
          go_round
          case rel => exact ⟨j + 1, by omega, by go_num, by rw [S.out]⟩
          case measure => simp [intOf]; omega
      · obtain rfl : j = N := by omega
        go_wp2_with fail
        go_ret2
        exact check_end (by rw [V.out, HRR.out]) HG.out
  · have hv0 : vs l n = false := by simpa using hv
    have V := Lib.hid (chkV_inv hv0)
    rw [hv0]
    go_wp2_with fail
    go_ret2
    exact check_end V.out HG.out
/-- Bytes as a string of the model. -/
def bs (l : List Nat) : ByteArray := ⟨(l.map fun x => UInt8.ofNat x).toArray⟩
set_option maxRecDepth 100000 in
theorem conv_nv {w : World} {q : Nat → Prop} {p : Option Addr} {k c : Nat} {l : List Nat} (hl : By l) (hk : k = l.length) (hR : Rd w q (.slice p k c) (l.map nv)) (hpc : p = none → c = 0) :
    (convert 34 9 (.slice p k c)).run Tryd.prog w = .ok (.string (bs l)) w := by
  subst hk
  have hmap : ∀ x ∈ l, nv x = .int .u8 (((UInt8.ofNat x).toNat : Nat) : Int) := by
    intro x hx
    have := hl x hx
    unfold nv
    rw [UInt8.toNat_ofNat', Nat.mod_eq_of_lt this]
  cases p with
  | none =>
    obtain rfl := hpc rfl
    obtain rfl : l = [] := by
      obtain ⟨p1, c1, e1, hx⟩ := hR
      injection e1 with a1 a2 a3
      subst a1
      cases l with
      | nil => rfl
      | cons y r => obtain ⟨b, off, hp, _⟩ := hx (by simp); cases hp
    exact Lib.run_convert_nil_bytes (P := Tryd.prog) w 34 9 5 0 Tryd.underlying34 Tryd.underlying5 Tryd.underlying9
  | some ad =>
    have e : l.length = (l.map fun x => UInt8.ofNat x).length := by simp
    rw [e]
    refine run_convert_bytes_back (P := Tryd.prog) w 34 9 5 ad c (l.map fun x => UInt8.ofNat x) Tryd.underlying34 Tryd.underlying5 Tryd.underlying9 (fun j hj => ?_)
    have hj' : j < l.length := by simpa using hj
    have := hR.news j (nv (l[j])) (by rw [List.getElem?_map, List.getElem?_eq_getElem hj']; rfl)
    rw [this, hmap _ (List.getElem_mem hj')]
    simp
/-- Whether two streams are one. -/
def same (l : List Nat) (n : Int) (l' : List Nat) (n' : Int) : Bool := n == n' && (bs l).toList == (bs l').toList
set_option maxRecDepth 100000 in
theorem same_self (l : List Nat) (n : Int) : same l n l n = true := by unfold same; simp
end Go.Proofs.YtnfgkakhdgiepaaDoor

/- packet: a packet's block. -/
namespace Go.Proofs.YtnfgkakhdgiepaaDoor
open Go.RowKit Bs
def zpk : Array Value := #[.int .i64 0, .int .i64 0, .int .i64 0, .int .i64 0, .int .i64 0, .int .i64 0, .int .i64 0, .int .i64 0, .int .u64 0, .string ⟨#[]⟩]
set_option maxRecDepth 100000 in
theorem pput_row {w : World} {h : Nat} (v0 v1 v2 v3 v4 v5 v6 v7 v8 v9 : Value) (hr : w.heap[h]? = some (.cells zpk 25 (0, 0))) :
    ((((((((((w.setCell ⟨h, 0, none⟩ v0).setCell ⟨h, 1, none⟩ v1).setCell ⟨h, 2, none⟩ v2).setCell ⟨h, 3, none⟩ v3).setCell ⟨h, 4, none⟩ v4).setCell ⟨h, 5, none⟩ v5).setCell ⟨h, 6, none⟩ v6).setCell ⟨h, 7, none⟩ v7).setCell ⟨h, 8, none⟩ v8).setCell ⟨h, 9, none⟩ v9).heap[h]? = some (.cells #[v0, v1, v2, v3, v4, v5, v6, v7, v8, v9] 25 (0, 0)) := by
  have e0 := heap_setCell_same _ h 0 _ _ v0 hr
  generalize w.setCell ⟨h, 0, none⟩ v0 = w0 at *
  replace e0 : w0.heap[h]? = some (.cells #[v0, .int .i64 0, .int .i64 0, .int .i64 0, .int .i64 0, .int .i64 0, .int .i64 0, .int .i64 0, .int .u64 0, .string ⟨#[]⟩] 25 (0, 0)) := e0
  have e1 := heap_setCell_same _ h 1 _ _ v1 e0
  generalize w0.setCell ⟨h, 1, none⟩ v1 = w1 at *
  replace e1 : w1.heap[h]? = some (.cells #[v0, v1, .int .i64 0, .int .i64 0, .int .i64 0, .int .i64 0, .int .i64 0, .int .i64 0, .int .u64 0, .string ⟨#[]⟩] 25 (0, 0)) := e1
  have e2 := heap_setCell_same _ h 2 _ _ v2 e1
  generalize w1.setCell ⟨h, 2, none⟩ v2 = w2 at *
  replace e2 : w2.heap[h]? = some (.cells #[v0, v1, v2, .int .i64 0, .int .i64 0, .int .i64 0, .int .i64 0, .int .i64 0, .int .u64 0, .string ⟨#[]⟩] 25 (0, 0)) := e2
  have e3 := heap_setCell_same _ h 3 _ _ v3 e2
  generalize w2.setCell ⟨h, 3, none⟩ v3 = w3 at *
  replace e3 : w3.heap[h]? = some (.cells #[v0, v1, v2, v3, .int .i64 0, .int .i64 0, .int .i64 0, .int .i64 0, .int .u64 0, .string ⟨#[]⟩] 25 (0, 0)) := e3
  have e4 := heap_setCell_same _ h 4 _ _ v4 e3
  generalize w3.setCell ⟨h, 4, none⟩ v4 = w4 at *
  replace e4 : w4.heap[h]? = some (.cells #[v0, v1, v2, v3, v4, .int .i64 0, .int .i64 0, .int .i64 0, .int .u64 0, .string ⟨#[]⟩] 25 (0, 0)) := e4
  have e5 := heap_setCell_same _ h 5 _ _ v5 e4
  generalize w4.setCell ⟨h, 5, none⟩ v5 = w5 at *
  replace e5 : w5.heap[h]? = some (.cells #[v0, v1, v2, v3, v4, v5, .int .i64 0, .int .i64 0, .int .u64 0, .string ⟨#[]⟩] 25 (0, 0)) := e5
  have e6 := heap_setCell_same _ h 6 _ _ v6 e5
  generalize w5.setCell ⟨h, 6, none⟩ v6 = w6 at *
  replace e6 : w6.heap[h]? = some (.cells #[v0, v1, v2, v3, v4, v5, v6, .int .i64 0, .int .u64 0, .string ⟨#[]⟩] 25 (0, 0)) := e6
  have e7 := heap_setCell_same _ h 7 _ _ v7 e6
  generalize w6.setCell ⟨h, 7, none⟩ v7 = w7 at *
  replace e7 : w7.heap[h]? = some (.cells #[v0, v1, v2, v3, v4, v5, v6, v7, .int .u64 0, .string ⟨#[]⟩] 25 (0, 0)) := e7
  have e8 := heap_setCell_same _ h 8 _ _ v8 e7
  generalize w7.setCell ⟨h, 8, none⟩ v8 = w8 at *
  replace e8 : w8.heap[h]? = some (.cells #[v0, v1, v2, v3, v4, v5, v6, v7, v8, .string ⟨#[]⟩] 25 (0, 0)) := e8
  have e9 := heap_setCell_same _ h 9 _ _ v9 e8
  generalize w8.setCell ⟨h, 9, none⟩ v9 = w9 at *
  replace e9 : w9.heap[h]? = some (.cells #[v0, v1, v2, v3, v4, v5, v6, v7, v8, v9] 25 (0, 0)) := e9
  exact e9
set_option maxRecDepth 100000 in
theorem pput_grown (w : World) (h : Nat) (v0 v1 v2 v3 v4 v5 v6 v7 v8 v9 : Value) : w.grownBy ((((((((((w.setCell ⟨h, 0, none⟩ v0).setCell ⟨h, 1, none⟩ v1).setCell ⟨h, 2, none⟩ v2).setCell ⟨h, 3, none⟩ v3).setCell ⟨h, 4, none⟩ v4).setCell ⟨h, 5, none⟩ v5).setCell ⟨h, 6, none⟩ v6).setCell ⟨h, 7, none⟩ v7).setCell ⟨h, 8, none⟩ v8).setCell ⟨h, 9, none⟩ v9) (some h) := by
  exact grown_trans (grown_trans (grown_trans (grown_trans (grown_trans (grown_trans (grown_trans (grown_trans (grown_trans (grown_setCell _ ⟨h, 0, none⟩ _) (grown_setCell _ ⟨h, 1, none⟩ _)) (grown_setCell _ ⟨h, 2, none⟩ _)) (grown_setCell _ ⟨h, 3, none⟩ _)) (grown_setCell _ ⟨h, 4, none⟩ _)) (grown_setCell _ ⟨h, 5, none⟩ _)) (grown_setCell _ ⟨h, 6, none⟩ _)) (grown_setCell _ ⟨h, 7, none⟩ _)) (grown_setCell _ ⟨h, 8, none⟩ _)) (grown_setCell _ ⟨h, 9, none⟩ _)
set_option maxRecDepth 100000 in
theorem zp_cells {w : World} {h : Nat} (hr : w.heap[h]? = some (.cells zpk 25 (0, 0))) :
    (w.cell? ⟨h, 0, none⟩ = some (.int .i64 0) ∧ w.cell? ⟨h, 1, none⟩ = some (.int .i64 0) ∧ w.cell? ⟨h, 2, none⟩ = some (.int .i64 0) ∧ w.cell? ⟨h, 3, none⟩ = some (.int .i64 0) ∧ w.cell? ⟨h, 4, none⟩ = some (.int .i64 0) ∧ w.cell? ⟨h, 5, none⟩ = some (.int .i64 0) ∧ w.cell? ⟨h, 6, none⟩ = some (.int .i64 0) ∧ w.cell? ⟨h, 7, none⟩ = some (.int .i64 0) ∧ w.cell? ⟨h, 8, none⟩ = some (.int .u64 0) ∧ w.cell? ⟨h, 9, none⟩ = some (.string ⟨#[]⟩)) ∧ w.frozen? ⟨h, 0, none⟩ = false ∧ w.frozen? ⟨h, 1, none⟩ = false ∧ w.frozen? ⟨h, 2, none⟩ = false ∧ w.frozen? ⟨h, 3, none⟩ = false ∧ w.frozen? ⟨h, 4, none⟩ = false ∧ w.frozen? ⟨h, 5, none⟩ = false ∧ w.frozen? ⟨h, 6, none⟩ = false ∧ w.frozen? ⟨h, 7, none⟩ = false ∧ w.frozen? ⟨h, 8, none⟩ = false ∧ w.frozen? ⟨h, 9, none⟩ = false :=
  ⟨⟨cell_of_row _ _ _ _ _ _ hr, cell_of_row _ _ _ _ _ _ hr, cell_of_row _ _ _ _ _ _ hr, cell_of_row _ _ _ _ _ _ hr, cell_of_row _ _ _ _ _ _ hr, cell_of_row _ _ _ _ _ _ hr, cell_of_row _ _ _ _ _ _ hr, cell_of_row _ _ _ _ _ _ hr, cell_of_row _ _ _ _ _ _ hr, cell_of_row _ _ _ _ _ _ hr⟩, frozen_of_row _ _ _ _ _ hr, frozen_of_row _ _ _ _ _ hr, frozen_of_row _ _ _ _ _ hr, frozen_of_row _ _ _ _ _ hr, frozen_of_row _ _ _ _ _ hr, frozen_of_row _ _ _ _ _ hr, frozen_of_row _ _ _ _ _ hr, frozen_of_row _ _ _ _ _ hr, frozen_of_row _ _ _ _ _ hr, frozen_of_row _ _ _ _ _ hr⟩
set_option maxRecDepth 100000 in
theorem packet_size : (Tryd.prog.info? 25).map (·.size) = some 10 := by kernel_rfl
/-- The packet of a header, with these bits and this payload. -/
def rcells (V : Nat → Nat) (n : Int) (b : Nat) (s : ByteArray) : Array Value := #[.int .i64 (V 1 : Int), .int .i64 (V 2 : Int), .int .i64 (V 3 : Int), .int .i64 n, .int .i64 (V 5 : Int), .int .i64 (V 6 : Int), .int .i64 (V 7 : Int), .int .i64 (V 8 : Int), .int .u64 (b : Int), .string s]
set_option maxRecDepth 100000 in
theorem rc_cells {w : World} {h : Nat} {V : Nat → Nat} {n : Int} {b : Nat} {s : ByteArray} (hr : w.heap[h]? = some (.cells (rcells V n b s) 25 (0, 0))) :
    w.cell? ⟨h, 0, none⟩ = some (.int .i64 (V 1 : Int)) ∧ w.cell? ⟨h, 1, none⟩ = some (.int .i64 (V 2 : Int)) ∧ w.cell? ⟨h, 2, none⟩ = some (.int .i64 (V 3 : Int)) ∧ w.cell? ⟨h, 3, none⟩ = some (.int .i64 n) ∧ w.cell? ⟨h, 4, none⟩ = some (.int .i64 (V 5 : Int)) ∧ w.cell? ⟨h, 5, none⟩ = some (.int .i64 (V 6 : Int)) ∧ w.cell? ⟨h, 6, none⟩ = some (.int .i64 (V 7 : Int)) ∧ w.cell? ⟨h, 7, none⟩ = some (.int .i64 (V 8 : Int)) ∧ w.cell? ⟨h, 8, none⟩ = some (.int .u64 (b : Int)) ∧ w.cell? ⟨h, 9, none⟩ = some (.string s) :=
  ⟨cell_of_row _ _ _ _ _ _ hr, cell_of_row _ _ _ _ _ _ hr, cell_of_row _ _ _ _ _ _ hr, cell_of_row _ _ _ _ _ _ hr, cell_of_row _ _ _ _ _ _ hr, cell_of_row _ _ _ _ _ _ hr, cell_of_row _ _ _ _ _ _ hr, cell_of_row _ _ _ _ _ _ hr, cell_of_row _ _ _ _ _ _ hr, cell_of_row _ _ _ _ _ _ hr⟩
set_option maxRecDepth 100000 in
theorem four_new (w : World) (A B C D : Obj) : ((((w.alloc A).alloc B).alloc C).alloc D).heap[w.heap.size]? = some A ∧ ((((w.alloc A).alloc B).alloc C).alloc D).heap[w.heap.size + 1]? = some B ∧ ((((w.alloc A).alloc B).alloc C).alloc D).heap[w.heap.size + 2]? = some C ∧ ((((w.alloc A).alloc B).alloc C).alloc D).heap[w.heap.size + 3]? = some D ∧
    w.grownBy ((((w.alloc A).alloc B).alloc C).alloc D) none ∧ ((((w.alloc A).alloc B).alloc C).alloc D).heap.size = w.heap.size + 4 := by
  obtain ⟨h1, h2, h3, g, s⟩ := three_new w A B C
  have g4 := World.grownBy_alloc (((w.alloc A).alloc B).alloc C) D none
  have h4 := heap_alloc_new (((w.alloc A).alloc B).alloc C) D
  rw [s] at h4
  exact ⟨kept_row h1 g4 (by simp), kept_row h2 g4 (by simp), kept_row h3 g4 (by simp), h4, grown_trans g g4, by simp⟩
end Go.Proofs.YtnfgkakhdgiepaaDoor

/- packet: the rest of a packet is read. -/
namespace Go.Proofs.YtnfgkakhdgiepaaDoor
open Go.RowKit Bs
set_option maxRecDepth 100000 in
theorem res_packet_err {fn : Func} {p u : Tmp} (h : fn.results = #[.cell p 25, .tmp u]) (tmps : Array Value) (w : World) (g : Nat) (xs : Array Value) (hp : tmps.getD p undef = .pointer (some ⟨g, 0, none⟩)) (hn : xs.size = 10) (hg : w.heap[g]? = some (.cells xs 25 (0, 0))) :
    (results fn tmps).run Tryd.prog w = .ok (.tuple #[.agg xs, tmps.getD u undef]) w := by
  have hp' : tmps[p]?.getD undef = .pointer (some ⟨g, 0, none⟩) := by simpa using hp
  rw [results_cell_tmp h]
  simp [hp', asAddr, run_loadVar_row w g _ _ _ _ _ hg Tryd.underlying25 rfl (by rw [hn]; exact packet_size), Result.andThen]
/-- The error behind the header: of n bits and m bytes. -/
def restE (l : List Nat) (n m : Nat) : Int := if num (bt l) (49 + n + 8 * m) 16 ≠ chk (bt l) (49 + n + 8 * m) then 23 else if num (bt l) (49 + n + 8 * m + 16) (8 * l.length - (49 + n + 8 * m + 16)) ≠ 0 then 24 else 0
/-- The payload. -/
def restP (l : List Nat) (n m : Nat) : ByteArray := bs (pz (fun i => bt l (49 + n + i)) (8 * m) m)
def restV (V : Nat → Nat) (n : Nat) (l : List Nat) : Array Value × Int := if restE l n (V 9) = 0 then (rcells V (n : Int) (num (bt l) 49 n) (restP l n (V 9)), 0) else (zpk, restE l n (V 9))
/-- While the rest is read. -/
structure RS (W : World) (V : Nat → Nat) (n : Nat) (b : Nat) (s : ByteArray) (l : List Nat) (p : Option Addr) (c : Nat) (w : World) : Prop where
  rb : w.heap[W.heap.size + 1]? = some (.cells zpk 25 (0, 0))
  pb : w.heap[W.heap.size + 1 + 1]? = some (.cells (rcells V (n : Int) b s) 25 (0, 0))
  sb : w.heap[W.heap.size + 1 + 1 + 1]? = some (.cells #[.slice p l.length c, .int .i64 (8 * (l.length : Int))] 91 (0, 0))
  rd : Rd w (· < W.heap.size) (.slice p l.length c) (l.map nv)
  gr : W.grownBy w none
section
variable {W w w1 : World} {V : Nat → Nat} {n b : Nat} {s : ByteArray} {l : List Nat} {p : Option Addr} {c : Nat}
set_option maxRecDepth 100000 in
theorem RS.keep (H : RS W V n b s l p c w) (k : w.grownBy w1 none) : RS W V n b s l p c w1 :=
  ⟨kept_row H.rb k (by simp), kept_row H.pb k (by simp), kept_row H.sb k (by simp), H.rd.keep k, grown_trans H.gr k⟩
set_option maxRecDepth 100000 in
theorem RS.bits (H : RS W V n b s l p c w) (b' : Nat) : RS W V n b' s l p c (w.setCell ⟨W.heap.size + 1 + 1, 8, none⟩ (.int .u64 (b' : Int))) := by
  have j := grown_setCell w ⟨W.heap.size + 1 + 1, 8, none⟩ (.int .u64 (b' : Int))
  exact ⟨kept_row H.rb j (fun e => by have : W.heap.size + 1 = W.heap.size + 1 + 1 := Option.some.inj e; omega), heap_setCell_same w _ 8 _ _ _ H.pb, kept_row H.sb j (fun e => by have : W.heap.size + 1 + 1 + 1 = W.heap.size + 1 + 1 := Option.some.inj e; omega),
    H.rd.grown j (fun x hx e => by have : x = W.heap.size + 1 + 1 := Option.some.inj e; omega), grown_new H.gr j (by show W.heap.size ≤ W.heap.size + 1 + 1; omega)⟩
set_option maxRecDepth 100000 in
theorem RS.pay (H : RS W V n b s l p c w) (s' : ByteArray) : RS W V n b s' l p c (w.setCell ⟨W.heap.size + 1 + 1, 9, none⟩ (.string s')) := by
  have j := grown_setCell w ⟨W.heap.size + 1 + 1, 9, none⟩ (.string s')
  exact ⟨kept_row H.rb j (fun e => by have : W.heap.size + 1 = W.heap.size + 1 + 1 := Option.some.inj e; omega), heap_setCell_same w _ 9 _ _ _ H.pb, kept_row H.sb j (fun e => by have : W.heap.size + 1 + 1 + 1 = W.heap.size + 1 + 1 := Option.some.inj e; omega),
    H.rd.grown j (fun x hx e => by have : x = W.heap.size + 1 + 1 := Option.some.inj e; omega), grown_new H.gr j (by show W.heap.size ≤ W.heap.size + 1 + 1; omega)⟩
set_option maxRecDepth 100000 in
theorem RS.facts (H : RS W V n b s l p c w) : w.cell? ⟨W.heap.size + 1 + 1 + 1, 0, none⟩ = some (.slice p l.length c) ∧ w.cell? ⟨W.heap.size + 1 + 1 + 1, 1, none⟩ = some (.int .i64 (8 * (l.length : Int))) ∧ w.cell? ⟨W.heap.size + 1 + 1, 3, none⟩ = some (.int .i64 (n : Int)) :=
  ⟨(row_cells H.sb).1, (row_cells H.sb).2, cell_of_row _ _ _ _ _ _ H.pb⟩
end
section
variable {w : World} {q : Nat → Prop} {l : List Nat} {p : Option Addr} {c : Nat}
set_option maxRecDepth 100000 in
theorem slice_whole {A T : Nat} {a b : Int} (t : Int) (ht : t = (T : Int)) (hl : By l) (h : 8 * l.length ≤ 8192) (hT : A + T ≤ 8 * l.length) (ha : a = (A : Int)) (hb : b = ((A + T : Nat) : Int)) (hR : Rd w q (.slice p l.length c) (l.map nv)) :
    Calls Tryd.prog 120 #[.agg #[.slice p l.length c, .int .i64 (8 * (l.length : Int))], .int .i64 a, .int .i64 b] w fun e w' =>
      ∃ p2 c2, e = .returned (.tuple #[.agg #[.slice p2 (pz (fun i => bt l (A + i)) T ((T + 7) / 8)).length c2, .int .i64 t], .int .i64 0]) ∧ Rd w' (w.heap.size ≤ ·) (.slice p2 (pz (fun i => bt l (A + i)) T ((T + 7) / 8)).length c2) ((pz (fun i => bt l (A + i)) T ((T + 7) / 8)).map nv) ∧ (p2 = none → c2 = 0) ∧ w.grownBy w' none := by
  subst ha hb ht
  refine (slicep_any l (8 * (l.length : Int)) (A : Int) ((A + T : Nat) : Int) _ p c hl (by unfold I64; omega) (by unfold I64; omega) w (fun _ h => h) hR.bound).mono fun e w' hp => ?_
  have hv := slV_ok (l := l) (N := 8 * l.length) (A := A) (T := T) (vs_whole h) rfl hT
  rw [Int.natCast_mul] at hv
  change slV l (8 * (l.length : Int)) _ _ = _ at hv
  rw [hv] at hp
  obtain ⟨u, he, ⟨p2, c2, rfl, h1, h2, _⟩, hg⟩ := hp
  exact ⟨p2, c2, he, h1, h2, hg⟩
set_option maxRecDepth 100000 in
theorem take_whole {A K : Nat} {a k : Int} (hl : By l) (h : 8 * l.length ≤ 8192) (hK : K ≤ 64) (hT : A + K ≤ 8 * l.length) (ha : a = (A : Int)) (hk : k = (K : Int)) (hR : Rd w q (.slice p l.length c) (l.map nv)) :
    Calls Tryd.prog 119 #[.agg #[.slice p l.length c, .int .i64 (8 * (l.length : Int))], .int .i64 a, .int .i64 k] w fun e w' => e = .returned (.tuple #[.int .u64 ((num (bt l) A K : Nat) : Int), .int .i64 0]) ∧ w.grownBy w' none := by
  subst ha hk
  refine (takep_any l (8 * (l.length : Int)) (A : Int) (K : Int) _ p c hl (by unfold I64; omega) w hR).mono fun e w' hp => ?_
  obtain ⟨he, hg⟩ := hp
  have hv := takeV_ok (l := l) (n := ((8 * l.length : Nat) : Int)) (a := (A : Int)) (k := (K : Int)) (vs_whole h) (by unfold vw; simp; omega) (by omega) (by omega)
  rw [Int.natCast_mul, Int.toNat_natCast, Int.toNat_natCast] at hv
  change takeV l (8 * (l.length : Int)) _ _ = _ at hv
  rw [hv] at he
  exact ⟨he, hg⟩
set_option maxRecDepth 100000 in
theorem check_part {T : Nat} {t : Int} (ht : t = (T : Int)) (h : T ≤ 8 * l.length) (h2 : 8 * l.length ≤ 8192) (hR : Rd w q (.slice p (pz (fun i => bt l (0 + i)) T ((T + 7) / 8)).length c) ((pz (fun i => bt l (0 + i)) T ((T + 7) / 8)).map nv)) :
    Calls Tryd.prog 71 #[.agg #[.slice p (pz (fun i => bt l (0 + i)) T ((T + 7) / 8)).length c, .int .i64 t]] w fun e w' => e = .returned (.tuple #[.int .u64 ((chk (bt l) T : Nat) : Int), .int .i64 0]) ∧ w.grownBy w' none := by
  subst ht
  refine (checkp_any _ (T : Int) _ p c (pz_lt _ _ _) w hR).mono fun e w' hp => ?_
  obtain ⟨he, hg⟩ := hp
  have hvs : vs (pz (fun i => bt l (0 + i)) T ((T + 7) / 8)) (T : Int) = true := by
    refine vs_iff.2 ⟨by omega, pz_len _ _ _, fun i hi hn => ?_⟩
    rw [pz_len] at hi
    rw [bt_pz _ _ _ _ hi]
    simp; omega
  rw [chkV_ok hvs] at he
  rw [← chk_same (f := bt (pz (fun i => bt l (0 + i)) T ((T + 7) / 8))) (g := bt l) T fun i hi => by rw [bt_pz _ _ _ _ (by omega)]; simp [hi]]
  exact ⟨he, hg⟩
end
set_option maxRecDepth 100000 in
set_option maxHeartbeats 3200000 in
theorem readRest_any (V : Nat → Nat) (n : Nat) (hn : n ≤ 64) (h9 : V 9 ≤ 64) (l : List Nat) (hl : By l) (hlen : l.length = (49 + n + 8 * V 9 + 16 + 7) / 8) (q : Nat → Prop) (p : Option Addr) (c : Nat) (w : World) (hR : Rd w q (.slice p l.length c) (l.map nv)) :
    Calls Tryd.prog 83 #[hval V (n : Int), .slice p l.length c] w fun e w' => e = .returned (.tuple #[.agg (restV V n l).1, .int .i64 (restV V n l).2]) ∧ w.grownBy w' none := by
  have hl1 : 8 * l.length ≤ 8192 := by omega
  have hl2 : 49 + n + 8 * V 9 + 16 ≤ 8 * l.length := by omega
  have hl3 : 8 * l.length - (49 + n + 8 * V 9 + 16) ≤ 7 := by omega
  have HLEN := Lib.hid hlen
  clear hlen
  have hval' : hval V (n : Int) = .agg #[.int .i64 (V 0 : Int), .int .i64 (V 1 : Int), .int .i64 (V 2 : Int), .int .i64 (V 3 : Int), .int .i64 (n : Int), .int .i64 (V 5 : Int), .int .i64 (V 6 : Int), .int .i64 (V 7 : Int), .int .i64 (V 8 : Int), .int .u64 0, .string ⟨#[]⟩, .int .i64 (V 4 : Int), .int .i64 (V 9 : Int)] := rfl
  rw [hval']
  clear hval'
  obtain ⟨k1, k2, k3, k4, k5, k6⟩ := four_new w (.cells #[.int .i64 (V 0 : Int), .int .i64 (V 1 : Int), .int .i64 (V 2 : Int), .int .i64 (V 3 : Int), .int .i64 (n : Int), .int .i64 (V 5 : Int), .int .i64 (V 6 : Int), .int .i64 (V 7 : Int), .int .i64 (V 8 : Int), .int .u64 0, .string ⟨#[]⟩, .int .i64 (V 4 : Int), .int .i64 (V 9 : Int)] 101) (.cells zpk 25) (.cells (rcells V (n : Int) 0 ⟨#[]⟩) 25) (.cells #[.slice p l.length c, .int .i64 (8 * (l.length : Int))] 91)
  have HS : Hid (RS w V n 0 ⟨#[]⟩ l p c _) := Lib.hid ⟨k2, k3, k4, hR.bound.keep k5, k5⟩
  clear k1 k2 k3 k4 k5 k6 hR
  unfold zpk rcells at HS
  go_enter Tryd.func83, Tryd.ntmps83
  go_wp2_with fail
  generalize ((((w.alloc _).alloc _).alloc _).alloc _) = wa at *
  change Hid (RS w V n 0 ⟨#[]⟩ l p c wa) at HS
  refine (slice_whole (A := 0) (T := 49 + n + 8 * V 9) (49 + (n : Int) + 8 * (V 9 : Int)) (by omega) hl hl1 (by omega) rfl (by omega) HS.out.rd).mono ?_
  rintro e w1 ⟨p2, c2, rfl, hR2, hp2, hg⟩
  have hgb := World.grownBy_alloc w1 (.cells #[.slice p2 (pz (fun i => bt l (0 + i)) (49 + n + 8 * V 9) ((49 + n + 8 * V 9 + 7) / 8)).length c2, .int .i64 (49 + (n : Int) + 8 * (V 9 : Int))] 91) none
  have HS1 := Lib.hid (HS.out.keep (grown_trans hg hgb))
  have hC := check_part (T := 49 + n + 8 * V 9) (t := (49 + (n : Int) + 8 * (V 9 : Int))) (by omega) (by omega) hl1 (hR2.keep hgb)
  obtain ⟨L, hL⟩ : ∃ L, L = pz (fun i => bt l (0 + i)) (49 + n + 8 * V 9) ((49 + n + 8 * V 9 + 7) / 8) := ⟨_, rfl⟩
  rw [← hL] at hC HS1 ⊢
  have HC := Lib.hid hC
  clear hC hR2 hp2 hg hgb HS hL
  go_wp2_with fail
  refine HC.out.mono ?_
  rintro e w2 ⟨rfl, hg⟩
  have HS2 := Lib.hid (HS1.out.keep hg)
  obtain ⟨s0, s1, s2⟩ := HS2.out.facts
  clear hg HC HS1
  go_wp2_with fail
  refine (take_whole (A := 49 + n + 8 * V 9) (K := 16) hl hl1 (by decide) (by omega) (by omega) rfl HS2.out.rd).mono ?_
  rintro e w3 ⟨rfl, hg⟩
  have HS3 := Lib.hid (HS2.out.keep hg)
  clear s0 s1 s2 hg HS2
  obtain ⟨s0, s1, s2⟩ := HS3.out.facts
  obtain ⟨xg, hxg⟩ : ∃ x, x = num (bt l) (49 + n + 8 * V 9) 16 := ⟨_, rfl⟩
  obtain ⟨xc, hxc⟩ : ∃ x, x = chk (bt l) (49 + n + 8 * V 9) := ⟨_, rfl⟩
  rw [← hxg, ← hxc]
  have HXG := Lib.hid hxg
  have HXC := Lib.hid hxc
  clear hxg hxc
  by_cases he : xg = xc
  · have HE := Lib.hid he
    have he' : (((xg : Nat) : Int) != ((xc : Nat) : Int)) = false := by rw [he]; simp
    clear he
    go_wp2_with fail
    refine (take_whole (A := 49 + n + 8 * V 9 + 16) (K := 8 * l.length - (49 + n + 8 * V 9 + 16)) hl hl1 (by omega) (by omega) (by omega) (by omega) HS3.out.rd).mono ?_
    rintro e w4 ⟨rfl, hg⟩
    have HS4 := Lib.hid (HS3.out.keep hg)
    clear s0 s1 s2 hg HS3
    obtain ⟨s0, s1, s2⟩ := HS4.out.facts
    obtain ⟨xb, hxb⟩ : ∃ x, x = num (bt l) (49 + n + 8 * V 9 + 16) (8 * l.length - (49 + n + 8 * V 9 + 16)) := ⟨_, rfl⟩
    rw [← hxb]
    have HXB := Lib.hid hxb
    clear hxb
    by_cases hb : xb = 0
    · have HBZ := Lib.hid hb
      have hb' : (((xb : Nat) : Int) != 0) = false := by rw [hb]; rfl
      clear hb
      go_wp2_with fail
      refine (take_whole (A := 49) (K := n) hl hl1 hn (by omega) (by omega) rfl HS4.out.rd).mono ?_
      rintro e w5 ⟨rfl, hg⟩
      have HS5 := Lib.hid (HS4.out.keep hg)
      clear s0 s1 s2 hg HS4 hb' he'
      have HS6 := Lib.hid (HS5.out.bits (num (bt l) 49 n))
      have t0 := (rc_cells HS5.out.pb).2.2.2.2.2.2.2.2.1
      have t1 := frozen_of_row _ _ 8 _ _ HS5.out.pb
      obtain ⟨xn, hxn⟩ : ∃ x, x = num (bt l) 49 n := ⟨_, rfl⟩
      rw [← hxn] at HS6 ⊢
      have HXN := Lib.hid hxn
      clear hxn
      obtain ⟨s0, s1, s2⟩ := HS6.out.facts
      go_wp2_with fail
      generalize w5.setCell ⟨w.heap.size + 1 + 1, 8, none⟩ (.int .u64 (xn : Int)) = w6 at *
      refine (slice_whole (A := 49 + n) (T := 8 * V 9) (8 * (V 9 : Int)) (by omega) hl hl1 (by omega) (by omega) (by omega) HS6.out.rd).mono ?_
      rintro e w7 ⟨p3, c3, rfl, hR3, hp3, hg⟩
      rw [show (8 * V 9 + 7) / 8 = V 9 by omega] at hR3 ⊢
      have hby : By (pz (fun i => bt l (49 + n + i)) (8 * V 9) (V 9)) := pz_lt _ _ _
      have hP : Hid (bs (pz (fun i => bt l (49 + n + i)) (8 * V 9) (V 9)) = restP l n (V 9)) := Lib.hid rfl
      generalize pz (fun i => bt l (49 + n + i)) (8 * V 9) (V 9) = L3 at *
      have hgb := World.grownBy_alloc w7 (.cells #[.slice p3 L3.length c3, .int .i64 (8 * (V 9 : Int))] 91) none
      have hcv := conv_nv (w := w7.alloc (.cells #[.slice p3 L3.length c3, .int .i64 (8 * (V 9 : Int))] 91)) hby rfl (hR3.keep hgb) hp3
      have HS8 := Lib.hid (HS6.out.keep (grown_trans hg hgb))
      have HS9 := Lib.hid (HS8.out.pay (bs L3))
      have t0 := (rc_cells HS8.out.pb).2.2.2.2.2.2.2.2.2
      have t1 := frozen_of_row _ _ 9 _ _ HS8.out.pb
      obtain ⟨q0, q1, q2, q3, q4, q5, q6, q7, q8, q9⟩ := rc_cells HS9.out.pb
      obtain ⟨⟨r0, r1, r2, r3, r4, r5, r6, r7, r8, r9⟩, f0, f1, f2, f3, f4, f5, f6, f7, f8, f9⟩ := zp_cells HS9.out.rb
      have hE : Hid (restV V n l = (rcells V (n : Int) xn (bs L3), 0)) := Lib.hid (by
        have hz : restE l n (V 9) = 0 := by unfold restE; rw [← HXG.out, ← HXC.out, ← HXB.out, if_neg (by simp [HE.out]), if_neg (by simp [HBZ.out])]
        unfold restV
        rw [if_pos hz, hP.out, ← HXN.out])
      clear s0 s1 s2 hR3 hp3 hg hgb HS5 HS6 hby
      go_wp2_with fail
      refine bodyPost_ret (res_packet_err rfl _ _ (w.heap.size + 1) _ rfl rfl (pput_row _ _ _ _ _ _ _ _ _ _ HS9.out.rb)) rfl ?_
      exact ⟨by rw [hE.out]; rfl, grown_new HS9.out.gr (pput_grown _ (w.heap.size + 1) _ _ _ _ _ _ _ _ _ _) (Nat.le_succ _)⟩
    · have hE : Hid (restV V n l = (zpk, 24)) := Lib.hid (by unfold restV restE; rw [← HXG.out, ← HXC.out, ← HXB.out, if_neg (by rw [if_neg (by simp [HE.out]), if_pos hb]; decide), if_neg (by simp [HE.out]), if_pos hb])
      have hb' : (((xb : Nat) : Int) != 0) = true := by simp; omega
      clear hb
      obtain ⟨⟨r0, r1, r2, r3, r4, r5, r6, r7, r8, r9⟩, f0, f1, f2, f3, f4, f5, f6, f7, f8, f9⟩ := zp_cells HS4.out.rb
      go_wp2_with fail
      refine bodyPost_ret (res_packet_err rfl _ _ (w.heap.size + 1) _ rfl rfl (pput_row _ _ _ _ _ _ _ _ _ _ HS4.out.rb)) rfl ?_
      exact ⟨by rw [hE.out]; rfl, grown_new HS4.out.gr (pput_grown _ (w.heap.size + 1) _ _ _ _ _ _ _ _ _ _) (Nat.le_succ _)⟩
  · have hE : Hid (restV V n l = (zpk, 23)) := Lib.hid (by unfold restV restE; rw [← HXG.out, ← HXC.out, if_neg (by rw [if_pos he]; decide), if_pos he])
    have he' : (((xg : Nat) : Int) != ((xc : Nat) : Int)) = true := by simp; omega
    clear he
    obtain ⟨⟨r0, r1, r2, r3, r4, r5, r6, r7, r8, r9⟩, f0, f1, f2, f3, f4, f5, f6, f7, f8, f9⟩ := zp_cells HS3.out.rb
    go_wp2_with fail
    refine bodyPost_ret (res_packet_err rfl _ _ (w.heap.size + 1) _ rfl rfl (pput_row _ _ _ _ _ _ _ _ _ _ HS3.out.rb)) rfl ?_
    exact ⟨by rw [hE.out]; rfl, grown_new HS3.out.gr (pput_grown _ (w.heap.size + 1) _ _ _ _ _ _ _ _ _ _) (Nat.le_succ _)⟩
end Go.Proofs.YtnfgkakhdgiepaaDoor

/- packet: Decode. -/
namespace Go.Proofs.YtnfgkakhdgiepaaDoor
open Go.RowKit Bs
set_option maxRecDepth 100000 in
theorem rd_take {w : World} {q : Nat → Prop} {p : Option Addr} {c : Nat} {l : List Nat} (k : Nat) (hk : k ≤ l.length) (hR : Rd w q (.slice p l.length c) (l.map nv)) (c' : Nat) : Rd w q (.slice p (l.take k).length c') ((l.take k).map nv) := by
  obtain ⟨p1, c1, hv, hc⟩ := hR
  injection hv with h1 _ _
  subst h1
  refine ⟨p, c', by rw [List.length_map], fun hne => ?_⟩
  have hl : l.map nv ≠ [] := by
    intro e
    have e2 : l = [] := List.map_eq_nil_iff.1 e
    subst e2
    exact hne (by simp)
  obtain ⟨b, off, hp, hb, hx⟩ := hc hl
  refine ⟨b, off, hp, hb, fun i x hi => hx i x ?_⟩
  rw [List.map_take] at hi
  have hik : i < k := by
    have := (List.getElem?_eq_some_iff.1 hi).1
    rw [List.length_take] at this; omega
  rw [List.getElem?_take_of_lt hik] at hi
  exact hi
set_option maxRecDepth 100000 in
theorem grown_undrew {w w7 : World} (g : w.drew.grownBy w7 none) : w.grownBy w7 none := ⟨g.os, g.tape, g.output, g.size, g.block⟩
set_option maxRecDepth 100000 in
theorem zp_after {w w5 : World} (g : (w.alloc (.cells zpk 25)).drew.grownBy w5 none) : w5.heap[w.heap.size]? = some (.cells zpk 25 (0, 0)) :=
  kept_row (heap_alloc_new w _) (grown_undrew g) (by simp)
/-- The fields of the header. -/
def hv7 (l : List Nat) : Nat → Nat := fv (l.take 7)
def szV (V : Nat → Nat) : Nat := (49 + 8 * 2 ^ V 4 + 8 * V 9 + 16 + 7) / 8
/-- What Decode returns. -/
def decV (l : List Nat) : Array Value × Int :=
  if l.length < 7 then (zpk, 20) else if misV (hv7 l) ≠ 0 then (zpk, misV (hv7 l)) else if l.length < szV (hv7 l) then (zpk, 20) else
    if (restV (hv7 l) (8 * 2 ^ hv7 l 4) (l.take (szV (hv7 l)))).2 ≠ 0 then (zpk, (restV (hv7 l) (8 * 2 ^ hv7 l 4) (l.take (szV (hv7 l)))).2) else if szV (hv7 l) < l.length then (zpk, 21) else
      ((restV (hv7 l) (8 * 2 ^ hv7 l 4) (l.take (szV (hv7 l)))).1, 0)
set_option maxRecDepth 100000 in
set_option maxHeartbeats 3200000 in
theorem pdecode_any (l : List Nat) (hl : By l) (p : Option Addr) (c : Nat) (hc : l.length ≤ c) (q : Nat → Prop) (w : World) (hR : Rd w q (.slice p l.length c) (l.map nv)) :
    Calls Tryd.prog 26 #[.slice p l.length c] w fun e w' => e = .returned (.tuple #[.agg (decV l).1, .int .i64 (decV l).2]) ∧ w.grownBy w' none := by
  obtain ⟨k1, k2⟩ := one_box w zpk 25
  have HB := Lib.hid (And.intro k1 k2)
  have HR := Lib.hid (hR.keep k2)
  clear k1 k2 hR
  unfold zpk at HB HR
  go_enter Tryd.func26, Tryd.ntmps26
  go_wp2_with fail
  generalize w.alloc _ = wa at *
  change Hid (wa.heap[w.heap.size]? = some (.cells zpk 25 (0, 0)) ∧ w.grownBy wa none) at HB
  refine (wholeBytes_any 49 (by decide) _).mono ?_
  rintro e w' ⟨rfl, rfl⟩
  rw [show ((49 + 7) / 8 : Nat) = 7 from rfl]
  by_cases h7 : l.length < 7
  · have hE : Hid (decV l = (zpk, 20)) := Lib.hid (by unfold decV; rw [if_pos h7])
    obtain ⟨⟨r0, r1, r2, r3, r4, r5, r6, r7, r8, r9⟩, f0, f1, f2, f3, f4, f5, f6, f7, f8, f9⟩ := zp_cells HB.out.1
    go_wp2_with fail
    refine bodyPost_ret (res_packet_err rfl _ _ w.heap.size _ rfl rfl (pput_row _ _ _ _ _ _ _ _ _ _ HB.out.1)) rfl ?_
    exact ⟨by rw [hE.out]; rfl, grown_new HB.out.2 (pput_grown _ w.heap.size _ _ _ _ _ _ _ _ _ _) (Nat.le_refl _)⟩
  · have h7' : 7 ≤ l.length := by omega
    have h7c : 7 ≤ c := by omega
    go_wp2_with fail
    refine (wholeBytes_any 49 (by decide) _).mono ?_
    rintro e w' ⟨rfl, rfl⟩
    rw [show ((49 + 7) / 8 : Nat) = 7 from rfl]
    go_wp2_with fail
    have e7 : (l.take 7).length = 7 := by rw [List.length_take]; omega
    have hA := readHeader_any (l.take 7) (fun x hx => hl x (List.mem_of_mem_take hx)) (by rw [e7]; decide) q p c wa (rd_take 7 h7' HR.out c)
    rw [e7] at hA
    refine hA.mono ?_
    rintro e w2 ⟨rfl, hg⟩
    have HB2 := Lib.hid (And.intro (kept_row HB.out.1 hg (by simp)) (grown_trans HB.out.2 hg))
    have HR2 := Lib.hid (HR.out.keep hg)
    have HD : Hid (decV l = if misV (hv7 l) ≠ 0 then (zpk, misV (hv7 l)) else if l.length < szV (hv7 l) then (zpk, 20) else
      if (restV (hv7 l) (8 * 2 ^ hv7 l 4) (l.take (szV (hv7 l)))).2 ≠ 0 then (zpk, (restV (hv7 l) (8 * 2 ^ hv7 l 4) (l.take (szV (hv7 l)))).2) else if szV (hv7 l) < l.length then (zpk, 21) else
      ((restV (hv7 l) (8 * 2 ^ hv7 l 4) (l.take (szV (hv7 l)))).1, 0)) := Lib.hid (by unfold decV; rw [if_neg h7])
    have h4 : hv7 l 4 < 4 := num_lt _ _ 2
    have h9 : hv7 l 9 < 128 := num_lt _ _ 7
    clear hA hg HB HR e7
    change Hid (_ = _) at HD
    obtain ⟨V, hV⟩ : ∃ V, V = hv7 l := ⟨_, rfl⟩
    rw [← hV] at HD h4 h9
    rw [show fv (l.take 7) = V from hV.symm]
    obtain ⟨n, hn⟩ : ∃ n : Nat, n = 8 * 2 ^ V 4 := ⟨_, rfl⟩
    rw [← hn] at HD
    rw [show (8 * 2 ^ V 4 : Int) = (n : Int) by rw [hn]; simp]
    have hn64 : n ≤ 64 := by
      have : 2 ^ V 4 ≤ 2 ^ 3 := Nat.pow_le_pow_right (by decide) (by omega)
      omega
    have hsz : szV V = (49 + n + 8 * V 9 + 16 + 7) / 8 := by unfold szV; rw [← hn]
    clear hV hn
    have hvv : hval V (n : Int) = .agg #[.int .i64 (V 0 : Int), .int .i64 (V 1 : Int), .int .i64 (V 2 : Int), .int .i64 (V 3 : Int), .int .i64 (n : Int), .int .i64 (V 5 : Int), .int .i64 (V 6 : Int), .int .i64 (V 7 : Int), .int .i64 (V 8 : Int), .int .u64 0, .string ⟨#[]⟩, .int .i64 (V 4 : Int), .int .i64 (V 9 : Int)] := rfl
    rw [hvv]
    have HH := Lib.hid (heap_alloc_new w2 (.cells #[.int .i64 (V 0 : Int), .int .i64 (V 1 : Int), .int .i64 (V 2 : Int), .int .i64 (V 3 : Int), .int .i64 (n : Int), .int .i64 (V 5 : Int), .int .i64 (V 6 : Int), .int .i64 (V 7 : Int), .int .i64 (V 8 : Int), .int .u64 0, .string ⟨#[]⟩, .int .i64 (V 4 : Int), .int .i64 (V 9 : Int)] 101))
    have HG := Lib.hid (World.grownBy_alloc w2 (.cells #[.int .i64 (V 0 : Int), .int .i64 (V 1 : Int), .int .i64 (V 2 : Int), .int .i64 (V 3 : Int), .int .i64 (n : Int), .int .i64 (V 5 : Int), .int .i64 (V 6 : Int), .int .i64 (V 7 : Int), .int .i64 (V 8 : Int), .int .u64 0, .string ⟨#[]⟩, .int .i64 (V 4 : Int), .int .i64 (V 9 : Int)] 101) none)
    have HSZ := Lib.hid hsz
    clear hvv hsz
    go_wp2_with fail
    generalize w2.alloc _ = w3 at *
    change Hid (w3.heap[w2.heap.size]? = some (.cells (hdc V 10 (n : Int)) 101 (0, 0))) at HH
    have HB3 := Lib.hid (And.intro (kept_row HB2.out.1 HG.out (by simp)) (grown_trans HB2.out.2 HG.out))
    have HR3 := Lib.hid (HR2.out.keep HG.out)
    clear HB2 HR2 HG
    refine (mistake_any V (n : Int) w2.heap.size w3 HH.out).mono ?_
    rintro e w' ⟨rfl, rfl⟩
    obtain ⟨m, hm⟩ : ∃ m, m = misV V := ⟨_, rfl⟩
    rw [← hm] at HD ⊢
    have HM := Lib.hid hm
    clear hm
    by_cases hm0 : m = 0
    · have h64 : V 9 ≤ 64 := by
        have h := HM.out
        rw [hm0] at h
        unfold misV at h
        split at h
        · cases h
        · split at h
          · cases h
          · split at h
            · cases h
            · omega
      subst hm0
      have b4 : w3.cell? ⟨w2.heap.size, 4, none⟩ = some (.int .i64 (n : Int)) := cell_of_row _ _ _ _ _ _ HH.out
      have b9 : w3.cell? ⟨w2.heap.size, 12, none⟩ = some (.int .i64 (V 9 : Int)) := cell_of_row _ _ _ _ _ _ HH.out
      go_wp2_with fail
      refine (bytesForP_any n (V 9) (by omega) (by omega) _).mono ?_
      rintro e w' ⟨rfl, rfl⟩
      rw [← HSZ.out]
      have hs200 : szV V ≤ 200 := by rw [HSZ.out]; omega
      obtain ⟨z, hz⟩ : ∃ z, z = szV V := ⟨_, rfl⟩
      rw [← hz] at HD hs200 ⊢
      have HZ := Lib.hid hz
      clear hz b4 b9
      by_cases hlz : l.length < z
      · have hE : Hid (decV l = (zpk, 20)) := Lib.hid (by rw [HD.out, if_neg (by simp), if_pos hlz])
        obtain ⟨⟨r0, r1, r2, r3, r4, r5, r6, r7, r8, r9⟩, f0, f1, f2, f3, f4, f5, f6, f7, f8, f9⟩ := zp_cells HB3.out.1
        go_wp2_with fail
        refine bodyPost_ret (res_packet_err rfl _ _ w.heap.size _ rfl rfl (pput_row _ _ _ _ _ _ _ _ _ _ HB3.out.1)) rfl ?_
        exact ⟨by rw [hE.out]; rfl, grown_new HB3.out.2 (pput_grown _ w.heap.size _ _ _ _ _ _ _ _ _ _) (Nat.le_refl _)⟩
      · have hzc : z ≤ c := by omega
        have hzl : z ≤ l.length := by omega
        obtain ⟨d0, d1, d2, d3, d4, d5, d6, d7, d8, d9, d10, d11, d12⟩ : w3.cell? ⟨w2.heap.size, 0, none⟩ = some (.int .i64 (V 0 : Int)) ∧ w3.cell? ⟨w2.heap.size, 1, none⟩ = some (.int .i64 (V 1 : Int)) ∧ w3.cell? ⟨w2.heap.size, 2, none⟩ = some (.int .i64 (V 2 : Int)) ∧ w3.cell? ⟨w2.heap.size, 3, none⟩ = some (.int .i64 (V 3 : Int)) ∧ w3.cell? ⟨w2.heap.size, 4, none⟩ = some (.int .i64 (n : Int)) ∧ w3.cell? ⟨w2.heap.size, 5, none⟩ = some (.int .i64 (V 5 : Int)) ∧ w3.cell? ⟨w2.heap.size, 6, none⟩ = some (.int .i64 (V 6 : Int)) ∧ w3.cell? ⟨w2.heap.size, 7, none⟩ = some (.int .i64 (V 7 : Int)) ∧ w3.cell? ⟨w2.heap.size, 8, none⟩ = some (.int .i64 (V 8 : Int)) ∧ w3.cell? ⟨w2.heap.size, 9, none⟩ = some (.int .u64 0) ∧ w3.cell? ⟨w2.heap.size, 10, none⟩ = some (.string ⟨#[]⟩) ∧ w3.cell? ⟨w2.heap.size, 11, none⟩ = some (.int .i64 (V 4 : Int)) ∧ w3.cell? ⟨w2.heap.size, 12, none⟩ = some (.int .i64 (V 9 : Int)) := ⟨cell_of_row _ _ _ _ _ _ HH.out, cell_of_row _ _ _ _ _ _ HH.out, cell_of_row _ _ _ _ _ _ HH.out, cell_of_row _ _ _ _ _ _ HH.out, cell_of_row _ _ _ _ _ _ HH.out, cell_of_row _ _ _ _ _ _ HH.out, cell_of_row _ _ _ _ _ _ HH.out, cell_of_row _ _ _ _ _ _ HH.out, cell_of_row _ _ _ _ _ _ HH.out, cell_of_row _ _ _ _ _ _ HH.out, cell_of_row _ _ _ _ _ _ HH.out, cell_of_row _ _ _ _ _ _ HH.out, cell_of_row _ _ _ _ _ _ HH.out⟩
        go_wp2_with fail
        have ez : (l.take z).length = z := by rw [List.length_take]; omega
        obtain ⟨r, hr⟩ : ∃ r, r = restV V n (l.take z) := ⟨_, rfl⟩
        have HC : Hid (∀ w', w3.grownBy w' none → Calls Tryd.prog 83 #[.agg #[.int .i64 (V 0 : Int), .int .i64 (V 1 : Int), .int .i64 (V 2 : Int), .int .i64 (V 3 : Int), .int .i64 (n : Int), .int .i64 (V 5 : Int), .int .i64 (V 6 : Int), .int .i64 (V 7 : Int), .int .i64 (V 8 : Int), .int .u64 0, .string ⟨#[]⟩, .int .i64 (V 4 : Int), .int .i64 (V 9 : Int)], .slice p z c] w' fun e w'' => e = .returned (.tuple #[.agg r.1, .int .i64 r.2]) ∧ w'.grownBy w'' none) := Lib.hid fun w' hg => by
          have h := readRest_any V n hn64 h64 (l.take z) (fun x hx => hl x (List.mem_of_mem_take hx)) (by rw [ez, HZ.out, HSZ.out]) q p c w' (rd_take z hzl (HR3.out.keep hg) c)
          rw [ez, ← hr] at h
          exact h
        have hr2 : (∃ b s, r = (rcells V (n : Int) b s, 0)) ∨ (∃ x, x ≠ 0 ∧ r = (zpk, x)) := by
          rw [hr]; unfold restV
          split
          · exact .inl ⟨_, _, rfl⟩
          · rename_i hx; exact .inr ⟨_, hx, rfl⟩
        rw [← hr] at HD
        clear hr
        have hHZ : (w3.alloc (.cells #[.int .i64 0, .int .i64 0, .int .i64 0, .int .i64 0, .int .i64 0, .int .i64 0, .int .i64 0, .int .i64 0, .int .u64 0, .string ⟨#[]⟩] 25)).heap[w2.heap.size]? = some (.cells (hdc V 10 (n : Int)) 101 (0, 0)) := kept_row HH.out (World.grownBy_alloc w3 _ none) (by simp)
        obtain ⟨i0, i1, i2, i3, i4, i5, i6, i7, i8, i9, i10, i11, i12⟩ : (w3.alloc (.cells #[.int .i64 0, .int .i64 0, .int .i64 0, .int .i64 0, .int .i64 0, .int .i64 0, .int .i64 0, .int .i64 0, .int .u64 0, .string ⟨#[]⟩] 25)).cell? ⟨w2.heap.size, 0, none⟩ = some (.int .i64 (V 0 : Int)) ∧ (w3.alloc (.cells #[.int .i64 0, .int .i64 0, .int .i64 0, .int .i64 0, .int .i64 0, .int .i64 0, .int .i64 0, .int .i64 0, .int .u64 0, .string ⟨#[]⟩] 25)).cell? ⟨w2.heap.size, 1, none⟩ = some (.int .i64 (V 1 : Int)) ∧ (w3.alloc (.cells #[.int .i64 0, .int .i64 0, .int .i64 0, .int .i64 0, .int .i64 0, .int .i64 0, .int .i64 0, .int .i64 0, .int .u64 0, .string ⟨#[]⟩] 25)).cell? ⟨w2.heap.size, 2, none⟩ = some (.int .i64 (V 2 : Int)) ∧ (w3.alloc (.cells #[.int .i64 0, .int .i64 0, .int .i64 0, .int .i64 0, .int .i64 0, .int .i64 0, .int .i64 0, .int .i64 0, .int .u64 0, .string ⟨#[]⟩] 25)).cell? ⟨w2.heap.size, 3, none⟩ = some (.int .i64 (V 3 : Int)) ∧ (w3.alloc (.cells #[.int .i64 0, .int .i64 0, .int .i64 0, .int .i64 0, .int .i64 0, .int .i64 0, .int .i64 0, .int .i64 0, .int .u64 0, .string ⟨#[]⟩] 25)).cell? ⟨w2.heap.size, 4, none⟩ = some (.int .i64 (n : Int)) ∧ (w3.alloc (.cells #[.int .i64 0, .int .i64 0, .int .i64 0, .int .i64 0, .int .i64 0, .int .i64 0, .int .i64 0, .int .i64 0, .int .u64 0, .string ⟨#[]⟩] 25)).cell? ⟨w2.heap.size, 5, none⟩ = some (.int .i64 (V 5 : Int)) ∧ (w3.alloc (.cells #[.int .i64 0, .int .i64 0, .int .i64 0, .int .i64 0, .int .i64 0, .int .i64 0, .int .i64 0, .int .i64 0, .int .u64 0, .string ⟨#[]⟩] 25)).cell? ⟨w2.heap.size, 6, none⟩ = some (.int .i64 (V 6 : Int)) ∧ (w3.alloc (.cells #[.int .i64 0, .int .i64 0, .int .i64 0, .int .i64 0, .int .i64 0, .int .i64 0, .int .i64 0, .int .i64 0, .int .u64 0, .string ⟨#[]⟩] 25)).cell? ⟨w2.heap.size, 7, none⟩ = some (.int .i64 (V 7 : Int)) ∧ (w3.alloc (.cells #[.int .i64 0, .int .i64 0, .int .i64 0, .int .i64 0, .int .i64 0, .int .i64 0, .int .i64 0, .int .i64 0, .int .u64 0, .string ⟨#[]⟩] 25)).cell? ⟨w2.heap.size, 8, none⟩ = some (.int .i64 (V 8 : Int)) ∧ (w3.alloc (.cells #[.int .i64 0, .int .i64 0, .int .i64 0, .int .i64 0, .int .i64 0, .int .i64 0, .int .i64 0, .int .i64 0, .int .u64 0, .string ⟨#[]⟩] 25)).cell? ⟨w2.heap.size, 9, none⟩ = some (.int .u64 0) ∧ (w3.alloc (.cells #[.int .i64 0, .int .i64 0, .int .i64 0, .int .i64 0, .int .i64 0, .int .i64 0, .int .i64 0, .int .i64 0, .int .u64 0, .string ⟨#[]⟩] 25)).cell? ⟨w2.heap.size, 10, none⟩ = some (.string ⟨#[]⟩) ∧ (w3.alloc (.cells #[.int .i64 0, .int .i64 0, .int .i64 0, .int .i64 0, .int .i64 0, .int .i64 0, .int .i64 0, .int .i64 0, .int .u64 0, .string ⟨#[]⟩] 25)).cell? ⟨w2.heap.size, 11, none⟩ = some (.int .i64 (V 4 : Int)) ∧ (w3.alloc (.cells #[.int .i64 0, .int .i64 0, .int .i64 0, .int .i64 0, .int .i64 0, .int .i64 0, .int .i64 0, .int .i64 0, .int .u64 0, .string ⟨#[]⟩] 25)).cell? ⟨w2.heap.size, 12, none⟩ = some (.int .i64 (V 9 : Int)) := ⟨cell_of_row _ _ _ _ _ _ hHZ, cell_of_row _ _ _ _ _ _ hHZ, cell_of_row _ _ _ _ _ _ hHZ, cell_of_row _ _ _ _ _ _ hHZ, cell_of_row _ _ _ _ _ _ hHZ, cell_of_row _ _ _ _ _ _ hHZ, cell_of_row _ _ _ _ _ _ hHZ, cell_of_row _ _ _ _ _ _ hHZ, cell_of_row _ _ _ _ _ _ hHZ, cell_of_row _ _ _ _ _ _ hHZ, cell_of_row _ _ _ _ _ _ hHZ, cell_of_row _ _ _ _ _ _ hHZ, cell_of_row _ _ _ _ _ _ hHZ⟩
        clear hHZ
        rcases hr2 with ⟨b, s, rfl⟩ | ⟨x, hx, rfl⟩
        · have HC2 := Lib.hid HC.out
          clear HC
          dsimp only at HC2
          unfold rcells at HC2
          go_cut [7, 8] from 34 to 41 (fun pp ee wx => ∃ g, pp = .pointer (some ⟨g, 0, none⟩) ∧ ee = .int .i64 (0) ∧ Hid (wx.heap[g]? = some (.cells (rcells V (n : Int) b s) 25 (0, 0)) ∧ wx.heap[w.heap.size]? = some (.cells zpk 25 (0, 0)) ∧ w.grownBy wx none))
          case first =>
            go_region_law (first
              | (go_simp; go_at_call 83; refine (HC2.out _ ?_).mono ?_; (focus (repeat (first | (with_reducible exact grown_refl _ _) | apply grown_drew | (with_reducible exact World.grownBy_alloc _ _ _)))); rintro e w5 ⟨rfl, hap⟩; have G5 : Hid (w3.grownBy w5 none) := (by refine Lib.hid (grown_trans ?_ hap); repeat (first | (with_reducible exact grown_refl _ _) | apply grown_drew | (with_reducible exact World.grownBy_alloc _ _ _))); first | (have ZZ := zp_after hap; have ZR := Lib.hid ZZ; obtain ⟨⟨r0, r1, r2, r3, r4, r5, r6, r7, r8, r9⟩, f0, f1, f2, f3, f4, f5, f6, f7, f8, f9⟩ := zp_cells ZZ; clear ZZ) | skip))
            all_goals
              go_wp2_with fail
              go_meet
              first
                | (refine ⟨w3.heap.size, by with_reducible rfl, by with_reducible rfl, ?_⟩; exact Lib.hid ⟨pput_row (w := w5) (h := w3.heap.size) _ _ _ _ _ _ _ _ _ _ ZR.out, kept_row (kept_row HB3.out.1 G5.out (by simp)) (pput_grown w5 w3.heap.size _ _ _ _ _ _ _ _ _ _) (fun e => by have h1 := World.lt_of_row' HB3.out.1; have := Option.some.inj e; omega), grown_new (grown_trans HB3.out.2 G5.out) (pput_grown w5 w3.heap.size _ _ _ _ _ _ _ _ _ _) (HB3.out.2.size)⟩)
                | (refine ⟨w5.heap.size, by with_reducible rfl, by with_reducible rfl, ?_⟩; exact Lib.hid ⟨heap_alloc_new w5 _, kept_row HB3.out.1 (grown_trans G5.out (World.grownBy_alloc w5 _ none)) (by simp), grown_trans HB3.out.2 (grown_trans G5.out (World.grownBy_alloc w5 _ none))⟩)
          case rest =>
            obtain ⟨g, rfl, rfl, HW⟩ := hcut
            clear d0 d1 d2 d3 d4 d5 d6 d7 d8 d9 d10 d11 d12 i0 i1 i2 i3 i4 i5 i6 i7 i8 i9 i10 i11 i12 HC2
            obtain ⟨⟨r0, r1, r2, r3, r4, r5, r6, r7, r8, r9⟩, f0, f1, f2, f3, f4, f5, f6, f7, f8, f9⟩ := zp_cells HW.out.2.1
            by_cases hlong : z < l.length
            · have hE : Hid (decV l = (zpk, 21)) := Lib.hid (by rw [HD.out, if_neg (by simp), if_neg hlz, if_neg (by simp), if_pos hlong])
              go_wp2_with fail
              refine bodyPost_ret (res_packet_err rfl _ _ w.heap.size _ rfl rfl (pput_row _ _ _ _ _ _ _ _ _ _ HW.out.2.1)) rfl ?_
              exact ⟨by rw [hE.out]; rfl, grown_new HW.out.2.2 (pput_grown _ w.heap.size _ _ _ _ _ _ _ _ _ _) (Nat.le_refl _)⟩
            · have hE : Hid (decV l = (rcells V (n : Int) b s, 0)) := Lib.hid (by rw [HD.out, if_neg (by simp), if_neg hlz, if_neg (by simp), if_neg hlong])
              obtain ⟨q0, q1, q2, q3, q4, q5, q6, q7, q8, q9⟩ := rc_cells HW.out.1
              go_wp2_with fail
              refine bodyPost_ret (res_packet_err rfl _ _ w.heap.size _ rfl rfl (pput_row _ _ _ _ _ _ _ _ _ _ HW.out.2.1)) rfl ?_
              exact ⟨by rw [hE.out]; rfl, grown_new HW.out.2.2 (pput_grown _ w.heap.size _ _ _ _ _ _ _ _ _ _) (Nat.le_refl _)⟩
        · have HC2 := Lib.hid HC.out
          clear HC
          dsimp only at HC2
          unfold zpk at HC2
          go_cut [7, 8] from 34 to 41 (fun pp ee wx => ∃ g, pp = .pointer (some ⟨g, 0, none⟩) ∧ ee = .int .i64 (x) ∧ Hid (wx.heap[g]? = some (.cells (zpk) 25 (0, 0)) ∧ wx.heap[w.heap.size]? = some (.cells zpk 25 (0, 0)) ∧ w.grownBy wx none))
          case first =>
            go_region_law (first
              | (go_simp; go_at_call 83; refine (HC2.out _ ?_).mono ?_; (focus (repeat (first | (with_reducible exact grown_refl _ _) | apply grown_drew | (with_reducible exact World.grownBy_alloc _ _ _)))); rintro e w5 ⟨rfl, hap⟩; have G5 : Hid (w3.grownBy w5 none) := (by refine Lib.hid (grown_trans ?_ hap); repeat (first | (with_reducible exact grown_refl _ _) | apply grown_drew | (with_reducible exact World.grownBy_alloc _ _ _))); first | (have ZZ := zp_after hap; have ZR := Lib.hid ZZ; obtain ⟨⟨r0, r1, r2, r3, r4, r5, r6, r7, r8, r9⟩, f0, f1, f2, f3, f4, f5, f6, f7, f8, f9⟩ := zp_cells ZZ; clear ZZ) | skip))
            all_goals
              go_wp2_with fail
              go_meet
              first
                | (refine ⟨w3.heap.size, by with_reducible rfl, by with_reducible rfl, ?_⟩; exact Lib.hid ⟨pput_row (w := w5) (h := w3.heap.size) _ _ _ _ _ _ _ _ _ _ ZR.out, kept_row (kept_row HB3.out.1 G5.out (by simp)) (pput_grown w5 w3.heap.size _ _ _ _ _ _ _ _ _ _) (fun e => by have h1 := World.lt_of_row' HB3.out.1; have := Option.some.inj e; omega), grown_new (grown_trans HB3.out.2 G5.out) (pput_grown w5 w3.heap.size _ _ _ _ _ _ _ _ _ _) (HB3.out.2.size)⟩)
                | (refine ⟨w5.heap.size, by with_reducible rfl, by with_reducible rfl, ?_⟩; exact Lib.hid ⟨heap_alloc_new w5 _, kept_row HB3.out.1 (grown_trans G5.out (World.grownBy_alloc w5 _ none)) (by simp), grown_trans HB3.out.2 (grown_trans G5.out (World.grownBy_alloc w5 _ none))⟩)
          case rest =>
            obtain ⟨g, rfl, rfl, HW⟩ := hcut
            clear d0 d1 d2 d3 d4 d5 d6 d7 d8 d9 d10 d11 d12 i0 i1 i2 i3 i4 i5 i6 i7 i8 i9 i10 i11 i12 HC2
            obtain ⟨⟨r0, r1, r2, r3, r4, r5, r6, r7, r8, r9⟩, f0, f1, f2, f3, f4, f5, f6, f7, f8, f9⟩ := zp_cells HW.out.2.1
            have hE : Hid (decV l = (zpk, x)) := Lib.hid (by rw [HD.out, if_neg (by simp), if_neg hlz, if_pos hx])
            have hxb : (x != 0) = true := by simpa using hx
            go_wp2_with fail
            refine bodyPost_ret (res_packet_err rfl _ _ w.heap.size _ rfl rfl (pput_row _ _ _ _ _ _ _ _ _ _ HW.out.2.1)) rfl ?_
            exact ⟨by rw [hE.out]; rfl, grown_new HW.out.2.2 (pput_grown _ w.heap.size _ _ _ _ _ _ _ _ _ _) (Nat.le_refl _)⟩
    · have hE : Hid (decV l = (zpk, m)) := Lib.hid (by rw [HD.out, if_pos hm0])
      have hmb : (m != 0) = true := by simpa using hm0
      obtain ⟨⟨r0, r1, r2, r3, r4, r5, r6, r7, r8, r9⟩, f0, f1, f2, f3, f4, f5, f6, f7, f8, f9⟩ := zp_cells HB3.out.1
      go_wp2_with fail
      refine bodyPost_ret (res_packet_err rfl _ _ w.heap.size _ rfl rfl (pput_row _ _ _ _ _ _ _ _ _ _ HB3.out.1)) rfl ?_
      exact ⟨by rw [hE.out]; rfl, grown_new HB3.out.2 (pput_grown _ w.heap.size _ _ _ _ _ _ _ _ _ _) (Nat.le_refl _)⟩
end Go.Proofs.YtnfgkakhdgiepaaDoor

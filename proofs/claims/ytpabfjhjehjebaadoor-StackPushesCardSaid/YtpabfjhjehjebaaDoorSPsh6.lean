/- Parts of the proof, packed: StWord, StRead, StMem, PkFields, Funs, PkHead, PkValid, PkWrite, PkCalls, PkAlign. -/
import Derived.Test.YtpabfjhjehjebaaDoorSPsh5
import Derived.Deep.CutRange
import Derived.Deep.RegionHeld3
import Derived.Deep.QuietTactic
import Derived.BigQuiet
import Derived.Test.YtpabfjhjehjebaaDoorSPsh2
import Derived.OwnWalk
import Derived.Lib.ConvBytes
import Derived.Test.YtpabfjhjehjebaaDoorSPsh4
/- stack: writeLabel, readLabel. -/
namespace Go.Proofs.YtpabfjhjehjebaaDoor
open Go.RowKit Bs
set_option maxRecDepth 100000 in
theorem or_join {a b k : Nat} (h : b < 2 ^ k) : a * 2 ^ k ||| b = a * 2 ^ k + b := by
  rw [Nat.mul_comm a, Nat.two_pow_add_eq_or_of_lt h]
set_option maxRecDepth 100000 in
theorem lab_word {v c h : Int} (hv : 0 ≤ v ∧ v ≤ 1048575) (hc : 0 ≤ c ∧ c ≤ 7) (hh : 0 ≤ h ∧ h ≤ 255) :
    bits .or .u32 (bits .or .u32 (v % 4294967296 * 4096 % 4294967296) (c % 4294967296 * 512 % 4294967296)) (h % 4294967296) = ((v.toNat * 4096 + c.toNat * 512 + h.toNat : Nat) : Int) := by
  obtain ⟨a, rfl⟩ := Int.eq_ofNat_of_zero_le hv.1
  obtain ⟨b, rfl⟩ := Int.eq_ofNat_of_zero_le hc.1
  obtain ⟨d, rfl⟩ := Int.eq_ofNat_of_zero_le hh.1
  have e1 : (a : Int) % 4294967296 * 4096 % 4294967296 = ((a * 4096 : Nat) : Int) := by omega
  have e2 : (b : Int) % 4294967296 * 512 % 4294967296 = ((b * 512 : Nat) : Int) := by omega
  have e3 : (d : Int) % 4294967296 = ((d : Nat) : Int) := by omega
  have o1 : a * 4096 ||| b * 512 = a * 4096 + b * 512 := or_join (k := 12) (by omega)
  have o2 : (a * 4096 + b * 512) ||| d = a * 4096 + b * 512 + d := by
    have := or_join (a := a * 8 + b) (b := d) (k := 9) (by omega)
    have e : (a * 8 + b) * 2 ^ 9 = a * 4096 + b * 512 := by omega
    rw [e] at this
    exact this
  rw [e1, e2, e3, u32_or_nat _ _ (by omega) (by omega), o1, u32_or_nat _ _ (by omega) (by omega), o2]
  simp
set_option maxRecDepth 100000 in
theorem lab_bot {x : Nat} (h : x % 512 < 256) (hx : x < 4294967296) : bits .or .u32 (x : Int) 256 = ((x + 256 : Nat) : Int) := by
  have e := u32_or_nat x 256 hx (by decide)
  rw [show ((256 : Nat) : Int) = 256 from rfl] at e
  rw [e]
  congr 1
  have h1 : x = x / 512 * 2 ^ 9 + x % 512 := by omega
  have h2 : x / 512 * 2 ^ 9 ||| x % 512 = x := by rw [or_join (k := 9) (by omega)]; exact h1.symm
  have h3 : x % 512 ||| 256 = 256 + x % 512 := by
    rw [Nat.or_comm]
    exact or_join (a := 1) (k := 8) (by omega)
  exact (calc x ||| 256 = (x / 512 * 2 ^ 9 ||| x % 512) ||| 256 := by rw [h2]
    _ = x / 512 * 2 ^ 9 ||| (256 + x % 512) := by rw [Nat.or_assoc, h3]
    _ = x / 512 * 2 ^ 9 + (256 + x % 512) := or_join (k := 9) (by omega)
    _ = x + 256 := by omega)
set_option maxRecDepth 100000 in
theorem by4_cells (n : Nat) : #[Value.int .u8 ((n : Int) / 16777216 % 256), .int .u8 ((n : Int) / 65536 % 256), .int .u8 ((n : Int) / 256 % 256), .int .u8 ((n : Int) % 256)] = ((by4 n).map nv).toArray := by
  simp [by4, nv]
set_option maxRecDepth 100000 in
set_option maxHeartbeats 1600000 in
theorem wlab_any (l : Lab) (z : Bool) (hv : vlab l = true) (w : World) :
    Calls Tryd.prog 67 #[.agg #[.int .i64 l.v, .int .i64 l.c, .int .i64 l.h], .bool z] w fun e w' =>
      ∃ g, e = .returned (.slice (some ⟨g, 0, none⟩) 4 4) ∧ w'.heap[g]? = some (.cells ((by4 (wordL l z)).map nv).toArray 5 (0, 0)) ∧ w.heap.size ≤ g ∧ w.grownBy w' none := by
  obtain ⟨k1, k2⟩ := sone_box w #[.int .i64 l.v, .int .i64 l.c, .int .i64 l.h] 55
  obtain ⟨c0, c1, c2⟩ := lab_facts k1
  clear k1 k2
  have hb := lab_back hv z
  rw [vlab_iff] at hv
  obtain ⟨h1, h2, h3⟩ := hv
  have hE := lab_word h1 h2 h3
  have HB := Lib.hid (lab_bot (x := l.v.toNat * 4096 + l.c.toNat * 512 + l.h.toNat) (by omega) (by omega))
  have HE := Lib.hid hE

  clear hE hb h1 h2 h3
  go_enter Tryd.func67, Tryd.ntmps67
  cases z
  · go_wp2_with fail
    go_ret
    rw [HE.out]
    obtain ⟨k1, k2, k3, k4⟩ := two_boxes w #[.int .i64 l.v, .int .i64 l.c, .int .i64 l.h] ((by4 (wordL l false)).map nv).toArray 55 5
    refine ⟨w.heap.size + 1, rfl, ?_, by omega, ?_⟩
    · rw [← by4_cells] at k2 ⊢
      exact k2
    · rw [← by4_cells] at k3
      exact k3
  · go_wp2_with fail
    go_ret
    rw [HE.out, HB.out]
    obtain ⟨k1, k2, k3, k4⟩ := two_boxes w #[.int .i64 l.v, .int .i64 l.c, .int .i64 l.h] ((by4 (wordL l true)).map nv).toArray 55 5
    refine ⟨w.heap.size + 1, rfl, ?_, by omega, ?_⟩
    · rw [← by4_cells] at k2 ⊢
      exact k2
    · rw [← by4_cells] at k3
      exact k3
end Go.Proofs.YtpabfjhjehjebaaDoor

/- stack: readLabel. -/
namespace Go.Proofs.YtpabfjhjehjebaaDoor
open Go.RowKit Bs
set_option maxRecDepth 100000 in
theorem rd_cells {w : World} {q : Nat → Prop} {p : Option Addr} {n c : Nat} {L : List Nat} (h : Rd w q (.slice p n c) (L.map nv)) (hn : 0 < L.length) :
    ∃ b off, p = some ⟨b, off, none⟩ ∧ q b ∧ ∀ i, i < L.length → w.cell? ⟨b, off + i, none⟩ = some (.int .u8 ((L.getD i 0 : Nat) : Int)) := by
  obtain ⟨p1, c1, e1, hx⟩ := h
  injection e1 with a1 a2 a3
  subst a1
  obtain ⟨b, off, hp, hq, hc⟩ := hx (by intro e; have := congrArg List.length e; simp at this; subst this; simp at hn)
  refine ⟨b, off, hp, hq, fun i hi => hc i _ ?_⟩
  rw [List.getElem?_map, List.getElem?_eq_getElem hi, List.getD_eq_getElem?_getD, List.getElem?_eq_getElem hi]; rfl
set_option maxRecDepth 100000 in
theorem word_or {a b c d : Nat} (ha : a < 256) (hb : b < 256) (hc : c < 256) (hd : d < 256) :
    bits .or .u32 (bits .or .u32 (bits .or .u32 (((a : Nat) : Int) * 16777216) ((b : Nat) * 65536)) ((c : Nat) * 256)) (d : Nat) = ((a * 16777216 + b * 65536 + c * 256 + d : Nat) : Int) := by
  have e1 : ((a : Nat) : Int) * 16777216 = ((a * 16777216 : Nat) : Int) := by omega
  have e2 : ((b : Nat) : Int) * 65536 = ((b * 65536 : Nat) : Int) := by omega
  have e3 : ((c : Nat) : Int) * 256 = ((c * 256 : Nat) : Int) := by omega
  have o1 : a * 16777216 ||| b * 65536 = a * 16777216 + b * 65536 := or_join (k := 24) (by omega)
  have o2 : (a * 16777216 + b * 65536) ||| c * 256 = a * 16777216 + b * 65536 + c * 256 := by
    have := or_join (a := a * 256 + b) (b := c * 256) (k := 16) (by omega)
    have e : (a * 256 + b) * 2 ^ 16 = a * 16777216 + b * 65536 := by omega
    rw [e] at this
    exact this
  have o3 : (a * 16777216 + b * 65536 + c * 256) ||| d = a * 16777216 + b * 65536 + c * 256 + d := by
    have := or_join (a := a * 65536 + b * 256 + c) (b := d) (k := 8) (by omega)
    have e : (a * 65536 + b * 256 + c) * 2 ^ 8 = a * 16777216 + b * 65536 + c * 256 := by omega
    rw [e] at this
    exact this
  rw [e1, e2, e3, u32_or_nat _ _ (by omega) (by omega), o1, u32_or_nat _ _ (by omega) (by omega), o2, u32_or_nat _ _ (by omega) (by omega), o3]
set_option maxRecDepth 100000 in
theorem store3 {w : World} {b : Nat} {x y z u v t : Value} {T : TypeId} (h : w.heap[b]? = some (.cells #[x, y, z] T (0, 0))) : (((w.setCell ⟨b, 0, none⟩ u).setCell ⟨b, 1, none⟩ v).setCell ⟨b, 2, none⟩ t).heap[b]? = some (.cells #[u, v, t] T (0, 0)) := by
  have e0 := heap_setCell_same _ b 0 _ _ u h
  have e1 := heap_setCell_same _ b 1 _ _ v e0
  exact heap_setCell_same _ b 2 _ _ t e1
set_option maxRecDepth 100000 in
theorem grown_store3 (w : World) (b : Nat) (u v t : Value) : w.grownBy (((w.setCell ⟨b, 0, none⟩ u).setCell ⟨b, 1, none⟩ v).setCell ⟨b, 2, none⟩ t) (some b) := grown_trans (grown_store2 w b u v) (grown_setCell _ ⟨b, 2, none⟩ t)
set_option maxRecDepth 100000 in
theorem lab_size : (Tryd.prog.info? 55).map (·.size) = some 3 := by kernel_rfl
set_option maxRecDepth 100000 in
theorem res_lab_bool {fn : Func} {p u : Tmp} (h : fn.results = #[.cell p 55, .tmp u]) (tmps : Array Value) (w : World) (g : Nat) (xs : Array Value) (hp : tmps.getD p undef = .pointer (some ⟨g, 0, none⟩)) (hn : xs.size = 3) (hg : w.heap[g]? = some (.cells xs 55 (0, 0))) :
    (results fn tmps).run Tryd.prog w = .ok (.tuple #[.agg xs, tmps.getD u undef]) w := by
  have hp' : tmps[p]?.getD undef = .pointer (some ⟨g, 0, none⟩) := by simpa using hp
  rw [results_cell_tmp h]
  simp [hp', asAddr, run_loadVar_row w g _ _ _ _ _ hg Tryd.underlying55 rfl (by rw [hn]; exact lab_size), Result.andThen]
set_option maxRecDepth 100000 in
set_option maxHeartbeats 1600000 in
theorem rdlab_any (L : List Nat) (hL : By L) (h4 : 4 ≤ L.length) (q : Nat → Prop) (p : Option Addr) (c : Nat) (w : World) (hR : Rd w q (.slice p L.length c) (L.map nv)) :
    Calls Tryd.prog 53 #[.slice p L.length c] w fun e w' => e = .returned (.tuple #[.agg #[.int .i64 (labN (word4 L 0)).v, .int .i64 (labN (word4 L 0)).c, .int .i64 (labN (word4 L 0)).h], .bool (botN (word4 L 0))]) ∧ w.grownBy w' none := by
  obtain ⟨k1, k2⟩ := sone_box w #[.int .i64 0, .int .i64 0, .int .i64 0] 55
  have HB := Lib.hid (And.intro k1 k2)
  obtain ⟨b, off, rfl, hq, hc⟩ := rd_cells (hR.keep k2) (by omega)
  have c0 := hc 0 (by omega)
  rw [Nat.add_zero] at c0
  have l0 : 0 < L.length := by omega
  have l1 : 1 < L.length := by omega
  have l2 : 2 < L.length := by omega
  have l3 : 3 < L.length := by omega
  have c1 := hc 1 (by omega)
  have c2 := hc 2 (by omega)
  have c3 := hc 3 (by omega)
  have y0 := hL.at_ (j := 0) (by omega)
  have y1 := hL.at_ (j := 1) (by omega)
  have y2 := hL.at_ (j := 2) (by omega)
  have y3 := hL.at_ (j := 3) (by omega)
  have HW : Hid (word4 L 0 = L.getD 0 0 * 16777216 + L.getD 1 0 * 65536 + L.getD 2 0 * 256 + L.getD 3 0) := Lib.hid rfl
  have HO := Lib.hid (word_or y0 y1 y2 y3)
  have HY := Lib.hid (word4_lt hL 0)
  clear k1 k2 hR hc hL
  go_enter Tryd.func53, Tryd.ntmps53
  go_upto_region 1 with fail
  generalize w.alloc _ = wa at *
  generalize L.getD 0 0 = x0 at *
  generalize L.getD 1 0 = x1 at *
  generalize L.getD 2 0 = x2 at *
  generalize L.getD 3 0 = x3 at *
  go_wp2_with fail
  go_region
  rw [HO.out, ← HW.out]
  obtain ⟨n, hn⟩ : ∃ n, word4 L 0 = n := ⟨_, rfl⟩
  rw [hn] at HY ⊢
  have HN := Lib.hid hn
  have B1 := u32_and_nat (n / 512) 7 (by have := HY.out; omega) (by decide)
  have B2 := u32_and_nat n 255 HY.out (by decide)
  have B3 := u32_and_nat (n / 256) 1 (by have := HY.out; omega) (by decide)
  have HZ := Lib.hid (And.intro B1 (And.intro B2 B3))
  clear B1 B2 B3 c0 c1 c2 c3 y0 y1 y2 y3 HO HW hn
  have HB2 : Hid (wa.drew.heap[w.heap.size]? = some (.cells #[.int .i64 0, .int .i64 0, .int .i64 0] 55 (0, 0)) ∧ w.grownBy wa.drew none) := Lib.hid ⟨HB.out.1, grown_drew HB.out.2⟩
  clear HB
  generalize wa.drew = wb at *
  have d0 := HB2.out.1
  have f0 := frozen_of_row _ _ 0 _ _ d0
  have f1 := frozen_of_row _ _ 1 _ _ d0
  have f2 := frozen_of_row _ _ 2 _ _ d0
  obtain ⟨e0, e1, e2⟩ := lab_facts (l := ⟨0, 0, 0⟩) d0
  simp only at e0 e1 e2
  clear d0
  go_wp2_with fail
  have hY := HY.out
  obtain ⟨B1, B2, B3⟩ := HZ.out
  refine bodyPost_ret (res_lab_bool rfl _ _ w.heap.size _ rfl rfl (store3 HB2.out.1)) rfl ?_
  rw [HN.out]
  have a1 : wrap64 ((n : Int) / 4096) = ((n / 4096 : Nat) : Int) := by unfold wrap64; omega
  have a2 : wrap64 (bits .and .u32 ((n : Int) / 512) 7) = ((n / 512 % 8 : Nat) : Int) := by
    rw [show (n : Int) / 512 = ((n / 512 : Nat) : Int) by omega, show (7 : Int) = ((7 : Nat) : Int) from rfl, B1, Nat.and_two_pow_sub_one_eq_mod (n / 512) 3]
    unfold wrap64; omega
  have a3 : wrap64 (bits .and .u32 (n : Int) 255) = ((n % 256 : Nat) : Int) := by
    rw [show (255 : Int) = ((255 : Nat) : Int) from rfl, B2, Nat.and_two_pow_sub_one_eq_mod n 8]
    unfold wrap64; omega
  have a4 : (bits .and .u32 ((n : Int) / 256) 1 == 1) = botN n := by
    rw [show (n : Int) / 256 = ((n / 256 : Nat) : Int) by omega, show (1 : Int) = ((1 : Nat) : Int) from rfl, B3, Nat.and_two_pow_sub_one_eq_mod (n / 256) 1]
    unfold botN
    rw [Bool.eq_iff_iff, beq_iff_eq, beq_iff_eq]
    omega
  refine ⟨?_, grown_new HB2.out.2 (grown_store3 _ _ _ _ _) (Nat.le_refl _)⟩
  show Ending.returned (.tuple #[.agg #[.int .i64 (wrap64 ((n : Int) / 4096)), .int .i64 (wrap64 (bits .and .u32 ((n : Int) / 512) 7)), .int .i64 (wrap64 (bits .and .u32 (n : Int) 255))], .bool (bits .and .u32 ((n : Int) / 256) 1 == 1)]) = _
  rw [a1, a2, a3, a4]
  rfl
end Go.Proofs.YtpabfjhjehjebaaDoor

/- Slices of labels in memory. -/
namespace Go.Proofs.YtpabfjhjehjebaaDoor
open Go.RowKit Bs
/-- The slice value v has n elements, whose cells are xs. -/
def RdK (w : World) (q : Nat → Prop) (v : Value) (n : Nat) (xs : List Value) : Prop :=
  ∃ p c, v = .slice p n c ∧ (xs ≠ [] → ∃ b off, p = some ⟨b, off, none⟩ ∧ q b ∧ ∀ i x, xs[i]? = some x → w.cell? ⟨b, off + i, none⟩ = some x)
set_option maxRecDepth 100000 in
theorem RdK.keep {w w' : World} {q : Nat → Prop} {v : Value} {n : Nat} {xs : List Value} (h : RdK w q v n xs) (g : w.grownBy w' none) : RdK w' q v n xs := by
  obtain ⟨p, c, hv, hc⟩ := h
  refine ⟨p, c, hv, fun hne => ?_⟩
  obtain ⟨b, off, hp, hb, hx⟩ := hc hne
  exact ⟨b, off, hp, hb, fun i x hi => g.cell (hx i x hi) (by simp)⟩
set_option maxRecDepth 100000 in
theorem RdK.mono {w : World} {q q' : Nat → Prop} {v : Value} {n : Nat} {xs : List Value} (h : RdK w q v n xs) (hq : ∀ b, q b → q' b) : RdK w q' v n xs := by
  obtain ⟨p, c, hv, hc⟩ := h
  refine ⟨p, c, hv, fun hne => ?_⟩
  obtain ⟨b, off, hp, hb, hx⟩ := hc hne
  exact ⟨b, off, hp, hq b hb, hx⟩
set_option maxRecDepth 100000 in
theorem rdk_nil (w : World) (q : Nat → Prop) (p : Option Addr) (c : Nat) : RdK w q (.slice p 0 c) 0 [] := ⟨p, c, rfl, fun h => absurd rfl h⟩
set_option maxRecDepth 100000 in
theorem rdk_of_own {w : World} {base size : Nat} {e : TypeId} {v : Value} {n : Nat} {xs : List Value} (h : w.ownsRow base e size v n xs) : RdK w (base ≤ ·) v n xs := by
  rcases h.2 with ⟨rfl, h0⟩ | ⟨g, cap, cur, rfl, hb, hg, _⟩
  · subst h0
    have hl : xs = [] := List.eq_nil_of_length_eq_zero (by have := h.1; omega)
    exact ⟨none, 0, rfl, fun hne => absurd hl hne⟩
  · refine ⟨some ⟨g, 0, none⟩, cap, rfl, fun _ => ⟨g, 0, rfl, hb, fun i x hi => ?_⟩⟩
    have := h.cells (g := g) rfl i x hi
    have hadd : (⟨g, 0, none⟩ : Addr).add i = ⟨g, 0 + i, none⟩ := by unfold Addr.add; split <;> simp_all
    rw [hadd] at this
    exact this
/-- The cells of labels. -/
def labsC (ls : List Lab) : List Value := ls.flatMap labC
set_option maxRecDepth 100000 in
theorem labsC_snoc (ls : List Lab) (l : Lab) : labsC (ls ++ [l]) = labsC ls ++ labC l := by unfold labsC; simp
set_option maxRecDepth 100000 in
theorem labsC_len : ∀ ls : List Lab, (labsC ls).length = 3 * ls.length
  | [] => rfl
  | l :: ls => by
    show (labC l ++ labsC ls).length = _
    rw [List.length_append, labsC_len ls, List.length_cons]
    show 3 + _ = _
    omega
set_option maxRecDepth 100000 in
theorem labsC_at : ∀ (ls : List Lab) (i k : Nat) (l : Lab), ls[i]? = some l → k < 3 → (labsC ls)[3 * i + k]? = (labC l)[k]?
  | [], i, k, l, h, _ => by simp at h
  | m :: ls, 0, k, l, h, hk => by
    obtain rfl : m = l := by simpa using h
    show (labC m ++ labsC ls)[3 * 0 + k]? = _
    rw [List.getElem?_append_left (by show _ < 3; omega), Nat.mul_zero, Nat.zero_add]
  | m :: ls, i + 1, k, l, h, hk => by
    show (labC m ++ labsC ls)[3 * (i + 1) + k]? = _
    rw [List.getElem?_append_right (by show 3 ≤ _; omega), show 3 * (i + 1) + k - (labC m).length = 3 * i + k by show 3 * (i + 1) + k - 3 = _; omega]
    exact labsC_at ls i k l (by simpa using h) hk
def RdL (w : World) (q : Nat → Prop) (v : Value) (ls : List Lab) : Prop := RdK w q v ls.length (labsC ls)
set_option maxRecDepth 100000 in
theorem RdL.keep {w w' : World} {q : Nat → Prop} {v : Value} {ls : List Lab} (h : RdL w q v ls) (g : w.grownBy w' none) : RdL w' q v ls := RdK.keep h g
set_option maxRecDepth 100000 in
theorem RdL.cells {w : World} {q : Nat → Prop} {p : Option Addr} {n c : Nat} {ls : List Lab} (h : RdL w q (.slice p n c) ls) (hn : 0 < ls.length) :
    n = ls.length ∧ ∃ b off, p = some ⟨b, off, none⟩ ∧ q b ∧ ∀ i (hi : i < ls.length), w.cell? ⟨b, off + i * 3, none⟩ = some (.int .i64 (ls[i]).v) ∧ w.cell? ⟨b, off + i * 3 + 1, none⟩ = some (.int .i64 (ls[i]).c) ∧ w.cell? ⟨b, off + i * 3 + 2, none⟩ = some (.int .i64 (ls[i]).h) := by
  obtain ⟨p1, c1, e1, hx⟩ := h
  injection e1 with a1 a2 a3
  subst a1
  obtain ⟨b, off, hp, hq, hc⟩ := hx (by intro e; have := congrArg List.length e; rw [labsC_len] at this; simp only [List.length_nil] at this; omega)
  refine ⟨a2, b, off, hp, hq, fun i hi => ?_⟩
  have hl := List.getElem?_eq_getElem hi
  rw [Nat.add_assoc, Nat.add_assoc, Nat.mul_comm i 3]
  exact ⟨hc _ _ (labsC_at ls i 0 _ hl (by decide)), hc _ _ (labsC_at ls i 1 _ hl (by decide)), hc _ _ (labsC_at ls i 2 _ hl (by decide))⟩
/-- Labels in a row of the call's own. -/
abbrev OwnL (w : World) (base : Nat) (v : Value) (ls : List Lab) : Prop := w.ownsRow base 55 3 v ls.length (labsC ls)
set_option maxRecDepth 100000 in
theorem info_lab : (Tryd.prog.info? 55).map (fun i => (i.zero, i.size, i.bytes)) = some (some (.agg #[.int .i64 0, .int .i64 0, .int .i64 0]), 3, 24) := by kernel_rfl
set_option maxRecDepth 100000 in
/-- The bytes behind a place. -/
theorem rd_drop {w : World} {q : Nat → Prop} {b off n c : Nat} {L : List Nat} (h : Rd w q (.slice (some ⟨b, off, none⟩) n c) (L.map nv)) (k c2 : Nat) : Rd w q (.slice (some ⟨b, off + k, none⟩) (L.drop k).length c2) ((L.drop k).map nv) := by
  obtain ⟨p1, c1, e1, hx⟩ := h
  injection e1 with a1 a2 a3
  subst a1
  refine ⟨_, c2, by rw [List.length_map], fun hne => ?_⟩
  have hne2 : L.map nv ≠ [] := by
    intro e
    apply hne
    rw [List.map_drop, e]; simp
  obtain ⟨b2, off2, hp, hq, hc⟩ := hx hne2
  obtain ⟨rfl, rfl⟩ : b = b2 ∧ off = off2 := by simpa using hp
  refine ⟨b, off + k, rfl, hq, fun i x hi => ?_⟩
  rw [List.map_drop, List.getElem?_drop] at hi
  rw [Nat.add_assoc]
  exact hc _ _ hi
set_option maxRecDepth 100000 in
theorem By.drop {L : List Nat} (h : By L) (k : Nat) : By (L.drop k) := fun x hx => h x (List.mem_of_mem_drop hx)
set_option maxRecDepth 100000 in
theorem word4_drop (L : List Nat) (k : Nat) : word4 (L.drop (4 * k)) 0 = word4 L k := by
  have f : ∀ j, (L.drop (4 * k)).getD j 0 = L.getD (4 * k + j) 0 := by
    intro j
    rw [List.getD_eq_getElem?_getD, List.getElem?_drop, ← List.getD_eq_getElem?_getD]
  unfold word4
  rw [f, f, f, f]
  rfl
set_option maxRecDepth 100000 in
theorem cells3 (w : World) (x y z : Value) (t : TypeId) : ∀ j u, [x, y, z][j]? = some u → (w.alloc (.cells #[x, y, z] t)).cell? ((⟨w.heap.size, 0, none⟩ : Addr).add j) = some u := by
  intro j u hj
  have hb : (w.alloc (.cells #[x, y, z] t)).heap[w.heap.size]? = some (.cells #[x, y, z] t (0, 0)) := heap_alloc_new w _
  have hadd : (⟨w.heap.size, 0, none⟩ : Addr).add j = ⟨w.heap.size, j, none⟩ := by rw [add_plain, Nat.zero_add]
  rw [hadd, cell_of_row _ _ _ _ _ _ hb]
  simpa using hj
end Go.Proofs.YtpabfjhjehjebaaDoor

/- packet: the table of the fields. -/
namespace Go.Proofs.YtpabfjhjehjebaaDoor
open Go.RowKit Bs
def fcells (h : Nat) : Array Value := #[.pointer (some ⟨h, 0, none⟩), .int .i64 2, .pointer (some ⟨h, 1, none⟩), .int .i64 2, .pointer (some ⟨h, 2, none⟩), .int .i64 3, .pointer (some ⟨h, 3, none⟩), .int .i64 5, .pointer (some ⟨h, 11, none⟩), .int .i64 2,
  .pointer (some ⟨h, 5, none⟩), .int .i64 6, .pointer (some ⟨h, 6, none⟩), .int .i64 10, .pointer (some ⟨h, 7, none⟩), .int .i64 9, .pointer (some ⟨h, 8, none⟩), .int .i64 3, .pointer (some ⟨h, 12, none⟩), .int .i64 7]
def FieldsPost (h : Nat) (w : World) (e : Ending) (w' : World) : Prop :=
  ∃ g, e = .returned (.slice (some ⟨g, 0, none⟩) 10 10) ∧ w'.heap[g]? = some (.cells (fcells h) 111 (0, 0)) ∧ w.heap.size ≤ g ∧ w.grownBy w' none
set_option maxRecDepth 100000 in
set_option maxHeartbeats 3200000 in
theorem fields_any (h : Nat) (w : World) :
    Calls Tryd.prog 81 #[.pointer (some ⟨h, 0, none⟩)] w fun e w' => FieldsPost h w e w' := by
  go_enter Tryd.func81, Tryd.ntmps81
  go_wp2_with fail
  go_region
  all_goals
    go_wp2_with fail
    go_ret
    exact ⟨w.heap.size, rfl, heap_alloc_new w _, Nat.le_refl _, grown_drew (World.grownBy_alloc w _ none)⟩
def hcells (P : Pk) : Array Value := #[.int .i64 2, .int .i64 P.mode, .int .i64 P.sub, .int .i64 P.set, .int .i64 P.len, .int .i64 P.ttl, .int .i64 P.ent, .int .i64 P.ing, .int .i64 P.pro, .int .u64 (P.bits : Int), .string P.pay, .int .i64 (lcode P.len : Int), .int .i64 (P.pay.size : Int)]
set_option maxRecDepth 100000 in
theorem fst_code {n : Int} (h : vl n = true) : fst (n.toNat / 8) = (lcode n : Int) := by
  rcases vl_cases h with rfl | rfl | rfl | rfl <;> decide
set_option maxRecDepth 100000 in
theorem vpk_parts {P : Pk} (h : vpk P = true) : ((1 ≤ P.mode ∧ P.mode ≤ 3) ∧ (0 ≤ P.sub ∧ P.sub ≤ 7) ∧ (0 ≤ P.set ∧ P.set ≤ 31) ∧ (0 ≤ P.ttl ∧ P.ttl ≤ 63) ∧ (0 ≤ P.ent ∧ P.ent ≤ 1023) ∧ (0 ≤ P.ing ∧ P.ing ≤ 256) ∧ (0 ≤ P.pro ∧ P.pro ≤ 7) ∧ P.pay.size ≤ 64 ∧ vb P.bits P.len = true) := of_decide_eq_true h
set_option maxRecDepth 100000 in
theorem vb_vl {b : Nat} {n : Int} (h : vb b n = true) : vl n = true := by
  unfold vb at h
  exact (Bool.and_eq_true _ _ ▸ h).1
set_option maxRecDepth 100000 in
theorem lcode_lt (n : Int) : lcode n < 4 := by
  unfold lcode
  split
  · decide
  · split
    · decide
    · split <;> decide
set_option maxRecDepth 100000 in
/-- What stands in the table of the fields. -/
theorem field_at {P : Pk} (h : vpk P = true) (hb : Nat) (k : Nat) (hk : k < 10) : ∃ o wd x : Nat, (fcells hb)[k * 2]? = some (.pointer (some ⟨hb, o, none⟩)) ∧ (fcells hb)[k * 2 + 1]? = some (.int .i64 (wd : Int)) ∧ (hcells P)[o]? = some (.int .i64 (x : Int)) ∧ x < 2 ^ wd ∧ wd ≤ 10 ∧ (fl P)[k]? = some (x, wd) := by
  obtain ⟨⟨m1, m2⟩, ⟨s1, s2⟩, ⟨e1, e2⟩, ⟨t1, t2⟩, ⟨n1, n2⟩, ⟨i1, i2⟩, ⟨p1, p2⟩, y1, v1⟩ := vpk_parts h
  have hl := lcode_lt P.len
  rcases (show k = 0 ∨ k = 1 ∨ k = 2 ∨ k = 3 ∨ k = 4 ∨ k = 5 ∨ k = 6 ∨ k = 7 ∨ k = 8 ∨ k = 9 by omega) with rfl | rfl | rfl | rfl | rfl | rfl | rfl | rfl | rfl | rfl
  · exact ⟨0, 2, 2, rfl, rfl, rfl, by decide, by decide, rfl⟩
  · exact ⟨1, 2, P.mode.toNat, rfl, rfl, by rw [Int.toNat_of_nonneg (by omega)]; rfl, by omega, by decide, rfl⟩
  · exact ⟨2, 3, P.sub.toNat, rfl, rfl, by rw [Int.toNat_of_nonneg (by omega)]; rfl, by omega, by decide, rfl⟩
  · exact ⟨3, 5, P.set.toNat, rfl, rfl, by rw [Int.toNat_of_nonneg (by omega)]; rfl, by omega, by decide, rfl⟩
  · exact ⟨11, 2, lcode P.len, rfl, rfl, rfl, by omega, by decide, rfl⟩
  · exact ⟨5, 6, P.ttl.toNat, rfl, rfl, by rw [Int.toNat_of_nonneg (by omega)]; rfl, by omega, by decide, rfl⟩
  · exact ⟨6, 10, P.ent.toNat, rfl, rfl, by rw [Int.toNat_of_nonneg (by omega)]; rfl, by omega, by decide, rfl⟩
  · exact ⟨7, 9, P.ing.toNat, rfl, rfl, by rw [Int.toNat_of_nonneg (by omega)]; rfl, by omega, by decide, rfl⟩
  · exact ⟨8, 3, P.pro.toNat, rfl, rfl, by rw [Int.toNat_of_nonneg (by omega)]; rfl, by omega, by decide, rfl⟩
  · exact ⟨12, 7, P.pay.size, rfl, rfl, rfl, by omega, by decide, rfl⟩
set_option maxRecDepth 100000 in
theorem flb_snoc {f : List (Nat × Nat)} {k x wd : Nat} (h : f[k]? = some (x, wd)) : flb (f.take (k + 1)) = flb (f.take k) ++ nb x wd := by
  unfold flb
  rw [List.take_add_one, h, List.flatMap_append]
  simp
set_option maxRecDepth 100000 in
theorem flb_take_le (P : Pk) (k : Nat) : (flb ((fl P).take k)).length ≤ 49 := by
  have h := hdr_len P
  have e : fl P = (fl P).take k ++ (fl P).drop k := (List.take_append_drop _ _).symm
  have e2 : flb (fl P) = flb ((fl P).take k) ++ flb ((fl P).drop k) := by
    unfold flb
    rw [← List.flatMap_append, List.take_append_drop]
  rw [e2, List.length_append] at h
  omega
end Go.Proofs.YtpabfjhjehjebaaDoor

/- The program's functions on bits: List, Nth, Rank, Spread, Gather. -/
namespace Go.Proofs.YtpabfjhjehjebaaDoor
open Go.RowKit Bs

set_option maxRecDepth 100000 in
theorem Tb.grown {w w' : World} {r : Option Nat} (h : Tb w) (g : w.grownBy w' r) (hr : r ≠ some 0) : Tb w' := by
  intro j hj
  exact g.cell (h j hj) (fun e => hr e.symm)
set_option maxRecDepth 100000 in
theorem Tb.keep {w w' : World} (h : Tb w) (g : w.grownBy w' none) : Tb w' := h.grown g (by simp)

set_option maxRecDepth 100000 in
theorem fst_pos {c : Nat} (h : c ≠ 0) : fst c = ((Lib.ctz 64 c : Nat) : Int) := by unfold fst; rw [if_neg h]

/-- The j lowest bits. -/
def tk (b j : Nat) : List Nat := (bl b).take j
set_option maxRecDepth 100000 in
theorem tk_le (b j : Nat) : (tk b j).length ≤ 64 := by unfold tk; rw [List.length_take]; have := bl_length_le b; omega
def ListRel (b : Nat) (w : World) (v : Value) (c j : Nat) (wr : World) : Prop :=
  Strip b c j ∧ wr.ownsRow w.heap.size 3 1 v (tk b j).length ((tk b j).map ival) ∧ w.grownBy wr none
set_option maxRecDepth 100000 in
theorem list_hit {b c j : Nat} {w wr w1 : World} {v v' : Value} {o : Obj} (h : ListRel b w v c j wr) (h0 : c ≠ 0)
    (hown' : w1.ownsRow w.heap.size 3 1 v' ((tk b j).length + 1) ((tk b j).map ival ++ [.int .i64 (fst c)])) (hg : (wr.alloc o).grownBy w1 v.ownBlock) : ListRel b w v' (wo c) (j + 1) w1 := by
  obtain ⟨h1, h2⟩ := h.1.step h0
  refine ⟨h1, ?_, own_step h.2.2 h.2.1 hg⟩
  unfold tk at hown' ⊢
  rw [take_next h2, List.length_append, List.map_append]
  rw [fst_pos h0] at hown'
  exact hown'
set_option maxRecDepth 100000 in
set_option maxHeartbeats 400000 in
theorem firstp_pos (c : Nat) (hc : U64 c) (h0 : c ≠ 0) (w : World) (hT : Tb w) :
    Calls Tryd.prog 97 #[.int .u64 (c : Int)] w fun e w' => e = .returned (.int .i64 ((Lib.ctz 64 c : Nat) : Int)) ∧ w = w' := by
  have := firstp_any c hc w hT
  rwa [fst_pos h0] at this

set_option maxRecDepth 100000 in
theorem lo_word (k : Nat) (hk : k ≤ 63) : IntKind.u64.wrap (IntKind.u64.wrap (2 ^ k) - 1) = ((lo k : Nat) : Int) := by
  rw [pow_word k (by omega)]
  have h := (b2_u64 (k := k) (by omega)).lt
  have h0 : 0 < 2 ^ k := Nat.pow_pos (by decide)
  unfold b2 at h ⊢
  unfold lo
  rw [IntKind.wrap_u64]; omega
end Go.Proofs.YtpabfjhjehjebaaDoor

/- packet: a header's block. -/
namespace Go.Proofs.YtpabfjhjehjebaaDoor
open Go.RowKit Bs
/-- While the header is written. -/
structure WH (W : World) (P : Pk) (h g S : Nat) (B : List Bool) (w : World) : Prop where
  fb : w.heap[g]? = some (.cells (fcells h) 111 (0, 0))
  hb : w.heap[h]? = some (.cells (hcells P) 88 (0, 0))
  st : ∃ p c, w.heap[S]? = some (.cells #[.slice p (pk B).length c, .int .i64 (B.length : Int)] 74 (0, 0)) ∧ Rd w (S < ·) (.slice p (pk B).length c) ((pk B).map nv) ∧ (p = none → c = 0)
  rb : w.heap[W.heap.size + 1]? = some (.cells #[.slice none 0 0, .int .i64 0] 74 (0, 0))
  gr : W.grownBy w none
set_option maxRecDepth 100000 in
theorem World.lt_of_row' {w : World} {b : Nat} {o : Obj} (h : w.heap[b]? = some o) : b < w.heap.size := (Array.getElem?_eq_some_iff.1 h).1
def pcells (P : Pk) : Array Value := #[.int .i64 P.mode, .int .i64 P.sub, .int .i64 P.set, .int .i64 P.len, .int .i64 P.ttl, .int .i64 P.ent, .int .i64 P.ing, .int .i64 P.pro, .int .u64 (P.bits : Int), .string P.pay]
set_option maxRecDepth 100000 in
theorem p_facts {w : World} {b : Nat} {P : Pk} (h : w.heap[b]? = some (.cells (pcells P) 31 (0, 0))) :
    w.cell? ⟨b, 0, none⟩ = some (.int .i64 P.mode) ∧ w.cell? ⟨b, 1, none⟩ = some (.int .i64 P.sub) ∧ w.cell? ⟨b, 2, none⟩ = some (.int .i64 P.set) ∧ w.cell? ⟨b, 3, none⟩ = some (.int .i64 P.len) ∧ w.cell? ⟨b, 4, none⟩ = some (.int .i64 P.ttl) ∧ w.cell? ⟨b, 5, none⟩ = some (.int .i64 P.ent) ∧ w.cell? ⟨b, 6, none⟩ = some (.int .i64 P.ing) ∧ w.cell? ⟨b, 7, none⟩ = some (.int .i64 P.pro) ∧ w.cell? ⟨b, 8, none⟩ = some (.int .u64 (P.bits : Int)) ∧ w.cell? ⟨b, 9, none⟩ = some (.string P.pay) :=
  ⟨cell_of_row _ _ _ _ _ _ h, cell_of_row _ _ _ _ _ _ h, cell_of_row _ _ _ _ _ _ h, cell_of_row _ _ _ _ _ _ h, cell_of_row _ _ _ _ _ _ h, cell_of_row _ _ _ _ _ _ h, cell_of_row _ _ _ _ _ _ h, cell_of_row _ _ _ _ _ _ h, cell_of_row _ _ _ _ _ _ h, cell_of_row _ _ _ _ _ _ h⟩
def zcells : Array Value := #[.int .i64 0, .int .i64 0, .int .i64 0, .int .i64 0, .int .i64 0, .int .i64 0, .int .i64 0, .int .i64 0, .int .i64 0, .int .u64 0, .string ⟨#[]⟩, .int .i64 0, .int .i64 0]
set_option maxRecDepth 100000 in
theorem h_facts {w : World} {h : Nat} (hr : w.heap[h]? = some (.cells zcells 88 (0, 0))) :
    w.frozen? ⟨h, 0, none⟩ = false ∧ w.frozen? ⟨h, 1, none⟩ = false ∧ w.frozen? ⟨h, 2, none⟩ = false ∧ w.frozen? ⟨h, 3, none⟩ = false ∧ w.frozen? ⟨h, 4, none⟩ = false ∧ w.frozen? ⟨h, 5, none⟩ = false ∧ w.frozen? ⟨h, 6, none⟩ = false ∧ w.frozen? ⟨h, 7, none⟩ = false ∧ w.frozen? ⟨h, 8, none⟩ = false ∧ w.frozen? ⟨h, 9, none⟩ = false ∧ w.frozen? ⟨h, 10, none⟩ = false ∧ w.frozen? ⟨h, 11, none⟩ = false ∧ w.frozen? ⟨h, 12, none⟩ = false :=
  ⟨frozen_of_row _ _ 0 _ _ hr, frozen_of_row _ _ 1 _ _ hr, frozen_of_row _ _ 2 _ _ hr, frozen_of_row _ _ 3 _ _ hr, frozen_of_row _ _ 4 _ _ hr, frozen_of_row _ _ 5 _ _ hr, frozen_of_row _ _ 6 _ _ hr, frozen_of_row _ _ 7 _ _ hr, frozen_of_row _ _ 8 _ _ hr, frozen_of_row _ _ 9 _ _ hr, frozen_of_row _ _ 10 _ _ hr, frozen_of_row _ _ 11 _ _ hr, frozen_of_row _ _ 12 _ _ hr⟩
/-- A stream of these bits is returned. -/
def BP (B : List Bool) (w : World) (e : Ending) (w' : World) : Prop := ∃ p c, e = .returned (.agg #[.slice p (pk B).length c, .int .i64 (B.length : Int)]) ∧ Rd w' (w.heap.size ≤ ·) (.slice p (pk B).length c) ((pk B).map nv) ∧ (p = none → c = 0) ∧ w.grownBy w' none
section
variable {W w w1 : World} {P : Pk} {h g S : Nat} {B B2 : List Bool}
set_option maxRecDepth 100000 in
theorem WH.keep (H : WH W P h g S B w) (k : w.grownBy w1 none) : WH W P h g S B w1 := by
  obtain ⟨p, c, h1, h2, h3⟩ := H.st
  exact ⟨kept_row H.fb k (by simp), kept_row H.hb k (by simp), ⟨p, c, kept_row h1 k (by simp), h2.keep k, h3⟩, kept_row H.rb k (by simp), grown_trans H.gr k⟩
set_option maxRecDepth 100000 in
theorem WH.turn (H : WH W P h g S B w) (hN : S ≠ h ∧ S ≠ g ∧ W.heap.size + 2 ≤ S) {p2 : Option Addr} {c2 : Nat} (hR : Rd w (S < ·) (.slice p2 (pk B2).length c2) ((pk B2).map nv)) (hp : p2 = none → c2 = 0) :
    WH W P h g S B2 ((w.setCell ⟨S, 0, none⟩ (.slice p2 (pk B2).length c2)).setCell ⟨S, 1, none⟩ (.int .i64 (B2.length : Int))) := by
  have k := grown_store2 w S (.slice p2 (pk B2).length c2) (.int .i64 (B2.length : Int))
  obtain ⟨p, c, h1, _, _⟩ := H.st
  exact ⟨kept_row H.fb k (fun e => hN.2.1 (Option.some.inj e).symm), kept_row H.hb k (fun e => hN.1 (Option.some.inj e).symm), ⟨p2, c2, store2 h1, hR.grown k (fun b hb e => by have := Option.some.inj e; omega), hp⟩,
    kept_row H.rb k (fun e => by have := Option.some.inj e; omega), grown_new H.gr k (by omega)⟩
set_option maxRecDepth 100000 in
theorem Rd.weaken {q q' : Nat → Prop} {v : Value} {vs : List Value} (h : Rd w q v vs) (hq : ∀ b, q b → b < w.heap.size → q' b) : Rd w q' v vs := by
  obtain ⟨p, c, hv, hc⟩ := h
  refine ⟨p, c, hv, fun hne => ?_⟩
  obtain ⟨b, off, hp, hb, hx⟩ := hc hne
  refine ⟨b, off, hp, hq b hb ?_, hx⟩
  cases vs with
  | nil => exact absurd rfl hne
  | cons y r => exact World.block_lt_of_cell? w ⟨b, off + 0, none⟩ (hx 0 y rfl)
set_option maxRecDepth 100000 in
theorem Rd.bound {w : World} {q : Nat → Prop} {v : Value} {vs : List Value} (h : Rd w q v vs) : Rd w (· < w.heap.size) v vs := by
  obtain ⟨p, c, hv, hc⟩ := h
  refine ⟨p, c, hv, fun hne => ?_⟩
  obtain ⟨b, off, hp, _, hx⟩ := hc hne
  refine ⟨b, off, hp, ?_, hx⟩
  cases vs with
  | nil => exact absurd rfl hne
  | cons y r => exact World.block_lt_of_cell? w ⟨b, off + 0, none⟩ (hx 0 y rfl)
set_option maxRecDepth 100000 in
/-- What Append gives to a list of bits. -/
theorem append_bits {p : Option Addr} {c v k : Nat} {q : Nat → Prop} (hk : k ≤ 64) (hv : v < 2 ^ k) (hl : B.length + k ≤ 8192) (hR : Rd w q (.slice p (pk B).length c) ((pk B).map nv)) :
    Calls Tryd.prog 86 #[.agg #[.slice p (pk B).length c, .int .i64 (B.length : Int)], .int .u64 (v : Int), .int .i64 (k : Int)] w fun e w' =>
      ∃ p2 c2, e = .returned (.tuple #[.agg #[.slice p2 (pk (B ++ nb v k)).length c2, .int .i64 ((B ++ nb v k).length : Int)], .int .i64 0]) ∧ Rd w' (w.heap.size ≤ ·) (.slice p2 (pk (B ++ nb v k)).length c2) ((pk (B ++ nb v k)).map nv) ∧ (p2 = none → c2 = 0) ∧ w.grownBy w' none := by
  have hvU : U64 v := Nat.lt_of_lt_of_le hv (Nat.pow_le_pow_right (n := 2) (by decide) hk)
  refine (appendp_any (pk B) (B.length : Int) v (k : Int) _ p c (pk_by B) hvU w (fun _ h => h) hR.bound).mono fun e w' hp => ?_
  rw [apV_pk B v k hk hv hl] at hp
  obtain ⟨u, he, ⟨p2, c2, rfl, h1, h2, _⟩, hg⟩ := hp
  exact ⟨p2, c2, he, h1, h2, hg⟩
end
end Go.Proofs.YtpabfjhjehjebaaDoor

/- packet: Valid. -/
namespace Go.Proofs.YtpabfjhjehjebaaDoor
open Go.RowKit Bs
def vrows (P : Pk) : List (Int × Int × Int) := [(P.mode, 1, 3), (P.sub, 0, 7), (P.set, 0, 31), (P.ttl, 0, 63), (P.ent, 0, 1023), (P.ing, 0, 256), (P.pro, 0, 7), ((P.pay.size : Int), 0, 64)]
def vcells (P : Pk) : Array Value := #[.int .i64 P.mode, .int .i64 1, .int .i64 3, .int .i64 P.sub, .int .i64 0, .int .i64 7, .int .i64 P.set, .int .i64 0, .int .i64 31, .int .i64 P.ttl, .int .i64 0, .int .i64 63,
  .int .i64 P.ent, .int .i64 0, .int .i64 1023, .int .i64 P.ing, .int .i64 0, .int .i64 256, .int .i64 P.pro, .int .i64 0, .int .i64 7, .int .i64 (P.pay.size : Int), .int .i64 0, .int .i64 64]
set_option maxRecDepth 100000 in
theorem vrow_at (P : Pk) (k : Nat) (hk : k < 8) : ∃ x lo hi : Int, (vcells P)[k * 3]? = some (.int .i64 x) ∧ (vcells P)[k * 3 + 1]? = some (.int .i64 lo) ∧ (vcells P)[k * 3 + 2]? = some (.int .i64 hi) ∧ (vrows P)[k]? = some (x, lo, hi) := by
  rcases (show k = 0 ∨ k = 1 ∨ k = 2 ∨ k = 3 ∨ k = 4 ∨ k = 5 ∨ k = 6 ∨ k = 7 by omega) with rfl | rfl | rfl | rfl | rfl | rfl | rfl | rfl <;> exact ⟨_, _, _, rfl, rfl, rfl, rfl⟩
/-- The first k rows are kept. -/
def Kept (P : Pk) (k : Nat) : Prop := ∀ j x lo hi, j < k → (vrows P)[j]? = some (x, lo, hi) → lo ≤ x ∧ x ≤ hi
set_option maxRecDepth 100000 in
theorem vpk_kept {P : Pk} (h : Kept P 8) : vpk P = vb P.bits P.len := by
  have h0 := h 0 _ _ _ (by decide) rfl
  have h1 := h 1 _ _ _ (by decide) rfl
  have h2 := h 2 _ _ _ (by decide) rfl
  have h3 := h 3 _ _ _ (by decide) rfl
  have h4 := h 4 _ _ _ (by decide) rfl
  have h5 := h 5 _ _ _ (by decide) rfl
  have h6 := h 6 _ _ _ (by decide) rfl
  have h7 := h 7 _ _ _ (by decide) rfl
  unfold vpk
  by_cases hb : vb P.bits P.len = true
  · rw [hb]; exact decide_eq_true ⟨h0, h1, h2, h3, h4, h5, h6, by omega, rfl⟩
  · rw [Bool.not_eq_true] at hb
    rw [hb]; exact decide_eq_false fun h => by cases h.2.2.2.2.2.2.2.2
set_option maxRecDepth 100000 in
theorem vpk_row {P : Pk} (h : vpk P = true) {k : Nat} {x lo hi : Int} (hk : k < 8) (hr : (vrows P)[k]? = some (x, lo, hi)) : lo ≤ x ∧ x ≤ hi := by
  obtain ⟨h0, h1, h2, h3, h4, h5, h6, h7, _⟩ := vpk_parts h
  rcases (show k = 0 ∨ k = 1 ∨ k = 2 ∨ k = 3 ∨ k = 4 ∨ k = 5 ∨ k = 6 ∨ k = 7 by omega) with rfl | rfl | rfl | rfl | rfl | rfl | rfl | rfl <;> cases hr
  · exact h0
  · exact h1
  · exact h2
  · exact h3
  · exact h4
  · exact h5
  · exact h6
  · exact ⟨by omega, by omega⟩
set_option maxRecDepth 100000 in
theorem vpk_not {P : Pk} {k : Nat} {x lo hi : Int} (hk : k < 8) (hr : (vrows P)[k]? = some (x, lo, hi)) (hn : ¬ (lo ≤ x ∧ x ≤ hi)) : vpk P = false := by
  cases h : vpk P with
  | false => rfl
  | true => exact absurd (vpk_row h hk hr) hn
set_option maxRecDepth 100000 in
set_option maxHeartbeats 3200000 in
theorem pvalid_any (P : Pk) (hP : P.Wf) (w : World) :
    Calls Tryd.prog 71 #[P.val] w fun e w' => e = .returned (.bool (vpk P)) ∧ w.grownBy w' none := by
  unfold Pk.val
  go_enter Tryd.func71, Tryd.ntmps71
  go_wp2_with fail
  obtain ⟨k1, k2, k3, k4⟩ := two_boxes w (pcells P) (vcells P) 31 115
  have HA := Lib.hid (And.intro k1 (And.intro k2 k3))
  clear k1 k2 k3 k4
  unfold pcells vcells at HA
  generalize ((w.alloc (.cells #[.int .i64 P.mode, .int .i64 P.sub, .int .i64 P.set, .int .i64 P.len, .int .i64 P.ttl, .int .i64 P.ent, .int .i64 P.ing, .int .i64 P.pro, .int .u64 (P.bits : Int), .string P.pay] 31)).alloc _) = wa at *
  change Hid (wa.heap[w.heap.size]? = some (.cells (pcells P) 31 (0, 0)) ∧ wa.heap[w.heap.size + 1]? = some (.cells (vcells P) 115 (0, 0)) ∧ w.grownBy wa none) at HA
  have hK0 : Hid (Kept P 0) := Lib.hid fun j x lo hi hj => absurd hj (Nat.not_lt_zero j)
  go_loopw [32] (fun i wr => ∃ k : Nat, k ≤ 8 ∧ i = .int .i64 (k : Int) ∧ Hid (Kept P k) ∧ Hid (wa.grownBy wr none)) (fun i _ => (8 - (intOf i).toNat))
  case atStart => exact ⟨0, Nat.zero_le _, rfl, hK0, Lib.hid (grown_refl _ _)⟩
  case round =>
    obtain ⟨k, hk, rfl, hK, hG⟩ := hrel
    clear hK0
    have GE := Lib.hid (grown_trans HA.out.2.2 hG.out)
    by_cases hk2 : k < 8
    · obtain ⟨x, lo, hi, c0, c1, c2, hr⟩ := vrow_at P k hk2
      have hrow := kept_row HA.out.2.1 hG.out (by simp)
      have d0 := (cell_of_row _ _ _ _ _ _ hrow).trans c0
      have d1 := (cell_of_row _ _ _ _ _ _ hrow).trans c1
      have d2 := (cell_of_row _ _ _ _ _ _ hrow).trans c2
      have HR := Lib.hid hr
      clear c0 c1 c2 hr hrow
      by_cases h1 : x < lo
      · have hn := Lib.hid (vpk_not hk2 HR.out (by omega))
        go_wp2_with fail
        go_ret
        exact ⟨by rw [hn.out]; rfl, grown_trans GE.out (World.grownBy_alloc _ _ none)⟩
      · by_cases h2 : hi < x
        · have hn := Lib.hid (vpk_not hk2 HR.out (by omega))
          go_wp2_with fail
          go_ret
          exact ⟨by rw [hn.out]; rfl, grown_trans GE.out (World.grownBy_alloc _ _ none)⟩
        · go_wp2_with fail
          go_roundw
          case rel =>
            refine ⟨k + 1, by omega, by go_num, Lib.hid fun j y lo' hi' hj hr => ?_, Lib.hid (grown_trans hG.out (World.grownBy_alloc _ _ none))⟩
            by_cases hjk : j < k
            · exact hK.out j y lo' hi' hjk hr
            · obtain rfl : j = k := by omega
              rw [HR.out] at hr
              cases hr
              exact ⟨by omega, by omega⟩
          case measure => simp [intOf]; omega
    · obtain rfl : k = 8 := by omega
      obtain ⟨a0, a1, a2, a3, a4, a5, a6, a7, a8, a9⟩ := p_facts (kept_row HA.out.1 hG.out (by simp))
      have hv := Lib.hid (vpk_kept hK.out)
      go_wp2_with fail
      refine (bvalidp_any P.bits P.len hP.bits _).mono ?_
      rintro e w9 ⟨rfl, rfl⟩
      go_wp2_with fail
      go_ret
      exact ⟨by rw [hv.out]; rfl, GE.out⟩
end Go.Proofs.YtpabfjhjehjebaaDoor

/- packet: the header of a packet is written. -/
namespace Go.Proofs.YtpabfjhjehjebaaDoor
open Go.RowKit Bs
set_option maxRecDepth 100000 in
set_option maxHeartbeats 600000 in
theorem writeHeader_any (P : Pk) (hv : vpk P = true) (w : World) (hT : Tb w) :
    Calls Tryd.prog 85 #[P.val] w fun e w' => BP (flb (fl P)) w e w' := by
  unfold Pk.val
  go_enter Tryd.func85, Tryd.ntmps85
  go_wp2_with fail
  obtain ⟨k1, k2, k3, k4⟩ := two_boxes w (pcells P) #[.slice none 0 0, .int .i64 0] 31 74
  have RP := Lib.hid k1
  have RS := Lib.hid k2
  have G := Lib.hid k3
  have SZ := Lib.hid k4
  have HTB := Lib.hid (hT.keep k3)
  clear k1 k2 k3 k4
  unfold pcells at RP RS G SZ HTB
  generalize ((w.alloc (.cells #[.int .i64 P.mode, .int .i64 P.sub, .int .i64 P.set, .int .i64 P.len, .int .i64 P.ttl, .int .i64 P.ent, .int .i64 P.ing, .int .i64 P.pro, .int .u64 (P.bits : Int), .string P.pay] 31)).alloc (.cells #[.slice none 0 0, .int .i64 0] 74)) = w2 at *
  change Hid (w2.heap[w.heap.size]? = some (.cells (pcells P) 31 (0, 0))) at RP
  obtain ⟨a0, a1, a2, a3, a4, a5, a6, a7, a8, a9⟩ := p_facts RP.out
  have RPZ := Lib.hid (kept_row RP.out (World.grownBy_alloc w2 (.cells zcells 88) none) (by simp))
  have RHZ := Lib.hid (heap_alloc_new w2 (.cells zcells 88))
  have RPd : Hid (w2.drew.heap[w.heap.size]? = some (.cells (pcells P) 31 (0, 0))) := Lib.hid RP.out
  have RPZd : Hid ((w2.alloc (.cells zcells 88)).drew.heap[w.heap.size]? = some (.cells (pcells P) 31 (0, 0))) := Lib.hid RPZ.out
  have SZ2 : Hid (w.heap.size ≠ w2.heap.size) := Lib.hid (by rw [SZ.out]; omega)
  have RPH : Hid ((w2.alloc (.cells (hcells P) 88)).drew.heap[w.heap.size]? = some (.cells (pcells P) 31 (0, 0))) := Lib.hid (kept_row RP.out (grown_drew (World.grownBy_alloc w2 (.cells (hcells P) 88) none)) (by simp))
  have RH : Hid ((w2.alloc (.cells (hcells P) 88)).drew.heap[w2.heap.size]? = some (.cells (hcells P) 88 (0, 0))) := Lib.hid (heap_alloc_new w2 (.cells (hcells P) 88))
  have GH : Hid (w.grownBy (w2.alloc (.cells (hcells P) 88)).drew none) := Lib.hid (grown_trans G.out (grown_drew (World.grownBy_alloc w2 (.cells (hcells P) 88) none)))
  have RS3 : Hid ((w2.alloc (.cells (hcells P) 88)).drew.heap[w.heap.size + 1]? = some (.cells #[.slice none 0 0, .int .i64 0] 74 (0, 0))) := Lib.hid (kept_row RS.out (grown_drew (World.grownBy_alloc w2 (.cells (hcells P) 88) none)) (by simp))
  obtain ⟨w3, hw3⟩ : ∃ w3, w3 = (w2.alloc (.cells (hcells P) 88)).drew := ⟨_, rfl⟩
  rw [← hw3] at RH GH RS3
  unfold hcells at RPH hw3
  unfold zcells at RPZ RPZd
  obtain ⟨f0, f1, f2, f3, f4, f5, f6, f7, f8, f9, f10, f11, f12⟩ := h_facts RHZ.out
  unfold zcells at f0 f1 f2 f3 f4 f5 f6 f7 f8 f9 f10 f11 f12
  have hvl := vb_vl (vpk_parts hv).2.2.2.2.2.2.2.2
  have HL : Hid (IntKind.u64.wrap (IntKind.i64.wrap (P.len.tdiv 8)) = ((P.len.toNat / 8 : Nat) : Int)) := Lib.hid (by rcases vl_cases hvl with h | h | h | h <;> rw [h] <;> decide)
  have HF := Lib.hid (fst_code hvl)
  have HU : Hid (U64 (P.len.toNat / 8)) := Lib.hid (by rcases vl_cases hvl with h | h | h | h <;> rw [h] <;> (unfold U64; decide))
  clear hvl
  go_cut [3] from 7 to 16 (fun hh wx => hh = .pointer (some ⟨w2.heap.size, 0, none⟩) ∧ wx = w3)
  case first =>
    go_region_held3 (fun w' => w'.cell? ⟨w.heap.size, 0, none⟩ = some (.int .i64 P.mode) ∧ w'.cell? ⟨w.heap.size, 1, none⟩ = some (.int .i64 P.sub) ∧ w'.cell? ⟨w.heap.size, 2, none⟩ = some (.int .i64 P.set) ∧ w'.cell? ⟨w.heap.size, 3, none⟩ = some (.int .i64 P.len) ∧ w'.cell? ⟨w.heap.size, 4, none⟩ = some (.int .i64 P.ttl) ∧ w'.cell? ⟨w.heap.size, 5, none⟩ = some (.int .i64 P.ent) ∧ w'.cell? ⟨w.heap.size, 6, none⟩ = some (.int .i64 P.ing) ∧ w'.cell? ⟨w.heap.size, 7, none⟩ = some (.int .i64 P.pro) ∧ w'.cell? ⟨w.heap.size, 8, none⟩ = some (.int .u64 (P.bits : Int)) ∧ w'.cell? ⟨w.heap.size, 9, none⟩ = some (.string P.pay))
      (first | (with_reducible exact p_facts RP.out) | (with_reducible exact p_facts RPd.out) | (with_reducible exact p_facts RPZ.out) | (with_reducible exact p_facts RPZd.out) | (with_reducible exact p_facts RPH.out))
      ((go_at_call 97; go_split_ands; simp only [HL.out]; refine (firstp_any _ HU.out _ (HTB.out.keep ?_)).mono ?_; (focus (repeat (first | (with_reducible exact grown_refl _ _) | apply grown_drew | (with_reducible exact World.grownBy_alloc _ _ _)))); rintro e w' ⟨rfl, rfl⟩; rw [HF.out]))
    all_goals
      rw [← hw3]
      go_wp2_with fail
      go_meet
      exact ⟨rfl, rfl⟩
  case rest =>
    obtain ⟨rfl, rfl⟩ := hcut
    clear a0 a1 a2 a3 a4 a5 a6 a7 a8 a9 f0 f1 f2 f3 f4 f5 f6 f7 f8 f9 f10 f11 f12 RPH RPZ RPZd RPd RP RS HL HF HU hw3 HTB RHZ
    go_wp2_with fail
    refine (fields_any w2.heap.size _).mono ?_
    rintro e w5 ⟨g, rfl, hfb, hge, hg5⟩
    obtain ⟨q1, q2⟩ := one_box wc #[.slice none 0 0, .int .i64 0] 74
    have hSw : w2.heap.size < wc.heap.size := World.lt_of_row' RH.out
    have hge2 : wc.heap.size < g := by have : (wc.alloc (.cells #[.slice none 0 0, .int .i64 0] 74)).heap.size = wc.heap.size + 1 := by simp
                                       omega
    have hW : Hid (WH w P w2.heap.size g wc.heap.size (flb ((fl P).take 0)) w5) := by
      rw [show flb ((fl P).take 0) = [] from rfl]
      refine Lib.hid ⟨hfb, kept_row RH.out (grown_trans q2 hg5) (by simp), ⟨none, 0, ?_, ?_, fun _ => rfl⟩, kept_row RS3.out (grown_trans q2 hg5) (by simp), grown_trans GH.out (grown_trans q2 hg5)⟩
      · rw [show pk [] = [] from rfl]; exact kept_row q1 hg5 (by simp)
      · rw [show pk [] = [] from rfl]; exact Rd.nil_ _ _ _ _
    have HN : Hid (wc.heap.size ≠ w2.heap.size ∧ wc.heap.size ≠ g ∧ w.heap.size + 2 ≤ wc.heap.size) := Lib.hid ⟨by omega, by omega, by rw [SZ.out] at hSw; omega⟩
    clear RS3 GH RH q1 q2 hfb hge hg5 hSw hge2 SZ SZ2 G
    go_wp2_with fail
    go_loopw [19] (fun i wr => ∃ k : Nat, k ≤ 10 ∧ i = .int .i64 (k : Int) ∧ Hid (WH w P w2.heap.size g wc.heap.size (flb ((fl P).take k)) wr)) (fun i _ => (10 - (intOf i).toNat))
    case atStart => exact ⟨0, Nat.zero_le _, rfl, hW⟩
    case round =>
      obtain ⟨k, hk, rfl, hR⟩ := hrel
      clear hW
      by_cases hk2 : k < 10
      · obtain ⟨o, wd, x, hc0, hc1, hc2, hx, hwd, hfl⟩ := field_at hv w2.heap.size k hk2
        have d0 := (cell_of_row _ _ _ _ _ _ hR.out.fb).trans hc0
        have d1 := (cell_of_row _ _ _ _ _ _ hR.out.fb).trans hc1
        have d2 := (cell_of_row _ _ _ _ _ _ hR.out.hb).trans hc2
        have hle := flb_take_le P k
        have hsn := flb_snoc hfl
        generalize flb ((fl P).take k) = B at *
        obtain ⟨B2, hB2⟩ : ∃ B2, B2 = flb ((fl P).take (k + 1)) := ⟨_, rfl⟩
        rw [← hB2] at hsn
        have HB2 := Lib.hid hB2
        clear hB2
        have HSN := Lib.hid hsn
        have HR := hR
        clear hfl hc0 hc1 hc2 hsn hR
        go_wp2_with fail
        have HRf := Lib.hid (HR.out.keep (World.grownBy_alloc wr (.cells #[.pointer (some ⟨w2.heap.size, o, none⟩), .int .i64 (wd : Int)] 111) none))
        have RF := Lib.hid (heap_alloc_new wr (.cells #[.pointer (some ⟨w2.heap.size, o, none⟩), .int .i64 (wd : Int)] 111))
        have d2 := (World.grownBy_alloc wr (.cells #[.pointer (some ⟨w2.heap.size, o, none⟩), .int .i64 (wd : Int)] 111) none).cell d2 (by simp)
        clear d0 d1 HR
        generalize wr.alloc (.cells #[.pointer (some ⟨w2.heap.size, o, none⟩), .int .i64 (wd : Int)] 111) = wf at *
        obtain ⟨p, c, hs, hRd, hpc⟩ := HRf.out.st
        obtain ⟨s0, s1⟩ := row_cells hs
        have x0 : wf.cell? ⟨wr.heap.size, 0, none⟩ = some (.pointer (some ⟨w2.heap.size, o, none⟩)) := cell_of_row _ _ _ _ _ _ RF.out
        have x1 : wf.cell? ⟨wr.heap.size, 1, none⟩ = some (.int .i64 (wd : Int)) := cell_of_row _ _ _ _ _ _ RF.out
        have HX : Hid (IntKind.u64.wrap (x : Int) = (x : Int)) := Lib.hid (by have : x < 2 ^ 10 := Nat.lt_of_lt_of_le hx (Nat.pow_le_pow_right (by decide) hwd); rw [IntKind.wrap_u64]; omega)
        have HA := Lib.hid fun (w' : World) (hg : wf.grownBy w' none) => append_bits (B := B) (v := x) (k := wd) (Nat.le_trans hwd (by decide)) hx (by omega) (hRd.keep hg)
        rw [← HSN.out] at HA
        clear hs hRd hpc RF
        go_region_law (first
          | (go_simp; go_at_call 86; (try simp only [HX.out]); refine (HA.out _ (grown_drew (grown_refl _ _))).mono ?_; rintro e w7 ⟨p2, c2, rfl, hR2, hp2, hg7⟩; have H7 := Lib.hid ((HRf.out.keep (grown_drew (grown_refl _ none))).keep hg7); have R7 := Lib.hid (And.intro hR2 hp2); obtain ⟨p7, c7, hs7, _, _⟩ := H7.out.st; obtain ⟨t0, t1⟩ := row_cells hs7; have z0 := frozen_of_row _ _ 0 _ _ hs7; have z1 := frozen_of_row _ _ 1 _ _ hs7; clear hR2 hp2 hg7 hs7))
        all_goals
          have HK : Hid (WH w P w2.heap.size g wc.heap.size B2 ((w7.setCell ⟨wc.heap.size, 0, none⟩ (.slice p2 (pk B2).length c2)).setCell ⟨wc.heap.size, 1, none⟩ (.int .i64 (B2.length : Int)))) := Lib.hid (H7.out.turn HN.out (R7.out.1.weaken fun b hb _ => Nat.lt_of_lt_of_le (World.lt_of_row' HRf.out.st.choose_spec.choose_spec.1) hb) R7.out.2)
          clear t0 t1 z0 z1 s0 s1 x0 x1 HA d2 H7 R7
          generalize (w7.setCell ⟨wc.heap.size, 0, none⟩ (.slice p2 (pk B2).length c2)).setCell ⟨wc.heap.size, 1, none⟩ (.int .i64 (B2.length : Int)) = w8 at *
          go_wp2_with fail
          go_roundw
          case rel => exact ⟨k + 1, by omega, by go_num, by rw [← HB2.out]; exact HK⟩
          case measure => simp [intOf]; omega
      · obtain rfl : k = 10 := by omega
        rw [show (fl P).take 10 = fl P from rfl] at hR
        obtain ⟨p, c, hs, hRd, hpc⟩ := hR.out.st
        obtain ⟨s0, s1⟩ := row_cells hs
        obtain ⟨r0, r1⟩ := row_cells hR.out.rb
        have z0 := frozen_of_row _ _ 0 _ _ hR.out.rb
        have z1 := frozen_of_row _ _ 1 _ _ hR.out.rb
        have HQ := Lib.hid (And.intro hRd hpc)
        clear hs hRd hpc
        go_wp2_with fail
        have hS := HN.out.2.2
        have k2 := grown_store2 wr (w.heap.size + 1) (.slice p (pk (flb (fl P))).length c) (.int .i64 ((flb (fl P)).length : Int))
        refine bodyPost_ret (res_stream rfl _ _ (w.heap.size + 1) _ _ rfl (store2 hR.out.rb)) rfl ?_
        exact ⟨p, c, rfl, (HQ.out.1.weaken (q' := fun b => w.heap.size + 2 ≤ b) fun b hb _ => by omega).grown k2 (fun b hb e => by have := Option.some.inj e; omega) |>.weaken fun b hb _ => by omega, HQ.out.2, grown_new hR.out.gr k2 (by omega)⟩
end Go.Proofs.YtpabfjhjehjebaaDoor

/- packet: the calls of bitio over lists of bits. -/
namespace Go.Proofs.YtpabfjhjehjebaaDoor
open Go.RowKit Bs
section
variable {w : World} {B : List Bool} {p : Option Addr} {c : Nat} {q : Nat → Prop}
/-- A stream of these bits and no error are returned. -/
def BT (B : List Bool) (w : World) (e : Ending) (w' : World) : Prop :=
  ∃ p2 c2, e = .returned (.tuple #[.agg #[.slice p2 (pk B).length c2, .int .i64 (B.length : Int)], .int .i64 0]) ∧ Rd w' (w.heap.size ≤ ·) (.slice p2 (pk B).length c2) ((pk B).map nv) ∧ (p2 = none → c2 = 0) ∧ w.grownBy w' none
set_option maxRecDepth 100000 in
theorem join_bits {l : List Nat} {p' : Option Addr} {c' : Nat} {q' : Nat → Prop} (hl : By l) (h : B.length + 8 * l.length ≤ 8192) (hR : Rd w q (.slice p (pk B).length c) ((pk B).map nv)) (hR' : Rd w q' (.slice p' l.length c') (l.map nv)) :
    Calls Tryd.prog 87 #[.agg #[.slice p (pk B).length c, .int .i64 (B.length : Int)], .agg #[.slice p' l.length c', .int .i64 ((8 * l.length : Nat) : Int)]] w fun e w' => BT (B ++ pb l) w e w' := by
  refine (joinp_any (pk B) l (B.length : Int) ((8 * l.length : Nat) : Int) _ p p' c c' (pk_by B) hl w (fun _ h => h) hR.bound hR'.bound).mono fun e w' hp => ?_
  have e1 := jnV_pk B (pb l) (by rw [pb_len]; exact h)
  rw [pk_pb l hl, pb_len] at e1
  rw [e1] at hp
  obtain ⟨u, he, ⟨p2, c2, rfl, h1, h2, _⟩, hg⟩ := hp
  exact ⟨p2, c2, he, h1, h2, hg⟩
set_option maxRecDepth 100000 in
theorem chk_same {f g : Nat → Bool} : ∀ k, (∀ i, i < k → f i = g i) → chk f k = chk g k
  | 0, _ => rfl
  | k + 1, h => by
    unfold chk
    rw [chk_same k fun i hi => h i (by omega), h k (by omega)]
set_option maxRecDepth 100000 in
theorem check_bits (h : B.length ≤ 8192) (hR : Rd w q (.slice p (pk B).length c) ((pk B).map nv)) :
    Calls Tryd.prog 84 #[.agg #[.slice p (pk B).length c, .int .i64 (B.length : Int)]] w fun e w' => e = .returned (.tuple #[.int .u64 ((ck B : Nat) : Int), .int .i64 0]) ∧ w.grownBy w' none := by
  refine (checkp_any (pk B) (B.length : Int) _ p c (pk_by B) w hR.bound).mono fun e w' hp => ?_
  obtain ⟨he, hg⟩ := hp
  rw [chkV_ok (pk_vs B h)] at he
  rw [show ck B = chk (bt (pk B)) B.length from (chk_same _ fun i hi => bt_pk B i (by omega)).symm]
  exact ⟨he, hg⟩
set_option maxRecDepth 100000 in
theorem align_bits (h : B.length ≤ 8192) (hR : Rd w q (.slice p (pk B).length c) ((pk B).map nv)) :
    Calls Tryd.prog 88 #[.agg #[.slice p (pk B).length c, .int .i64 (B.length : Int)]] w fun e w' =>
      ∃ p2 c2, e = .returned (.tuple #[.agg #[.slice p2 (pk B).length c2, .int .i64 ((8 * (pk B).length : Nat) : Int)], .int .i64 0]) ∧ Rd w' (w.heap.size ≤ ·) (.slice p2 (pk B).length c2) ((pk B).map nv) ∧ (p2 = none → c2 = 0) ∧ w.grownBy w' none := by
  refine (alignp_any (pk B) (B.length : Int) _ p c (pk_by B) w hR.bound).mono fun e w' hp => ?_
  rw [alV_pk B h] at hp
  obtain ⟨u, he, ⟨p2, c2, rfl, h1, h2, _⟩, hg⟩ := hp
  exact ⟨p2, c2, he, h1, h2, hg⟩
set_option maxRecDepth 100000 in
theorem bw_grown (w : World) (e : TypeId) (s : ByteArray) : w.grownBy (Lib.bytesWorld w e s) none :=
  ⟨rfl, rfl, rfl, by rw [Lib.bytesWorld_size]; omega, fun j hj _ => Lib.bytesWorld_at_old w e s j hj⟩
set_option maxRecDepth 100000 in
theorem bw_rd (w : World) (e : TypeId) (s : ByteArray) (c : Nat) : Rd (Lib.bytesWorld w e s) (· = w.heap.size) (.slice (some ⟨w.heap.size, 0, none⟩) (byl s).length c) ((byl s).map nv) := by
  refine ⟨_, c, by rw [List.length_map], fun _ => ⟨w.heap.size, 0, rfl, rfl, fun j x hj => ?_⟩⟩
  have hl : j < s.size := by
    have := (List.getElem?_eq_some_iff.1 hj).1
    rw [List.length_map, byl_len] at this; exact this
  rw [Nat.zero_add, Lib.bytesWorld_cell w e s j hl]
  unfold byl at hj
  rw [List.map_map, List.getElem?_map] at hj
  have hd : j < s.data.toList.length := by rw [Array.length_toList]; exact hl
  rw [List.getElem?_eq_getElem hd] at hj
  rw [List.getD_eq_getElem?_getD, List.getElem?_eq_getElem hd]
  exact hj
end
end Go.Proofs.YtpabfjhjehjebaaDoor

/- Align of the program: the result lies in a block of its own. -/
namespace Go.Proofs.YtpabfjhjehjebaaDoor
open Go.RowKit Bs
set_option maxRecDepth 100000 in
set_option maxHeartbeats 3200000 in
theorem alignp_own (l : List Nat) (n : Int) (hv : vs l n = true) (q : Nat → Prop) (p : Option Addr) (c : Nat) (hl : By l) (w : World) (hR : Rd w q (.slice p l.length c) (l.map nv)) :
    Calls Tryd.prog 88 #[.agg #[.slice p l.length c, .int .i64 n]] w fun e w' =>
      ∃ g, e = .returned (.tuple #[.agg #[.slice (some ⟨g, 0, none⟩) l.length l.length, .int .i64 ((8 * l.length : Nat) : Int)], .int .i64 0]) ∧ Blk w' g l ∧ w.heap.size ≤ g ∧ w.grownBy w' none := by
  obtain ⟨k1, k2, k3, k4⟩ := two_boxes w #[.slice p l.length c, .int .i64 n] #[.slice none 0 0, .int .i64 0] 74 74
  have H0 := Lib.hid (And.intro k1 (And.intro k2 (And.intro k3 k4)))
  have hR1 := hR.keep k3
  clear k1 k2 k3 k4 hR
  go_enter Tryd.func88, Tryd.ntmps88
  go_wp2_with fail
  generalize (w.alloc (.cells #[.slice p l.length c, .int .i64 n] 74)).alloc (.cells #[.slice none 0 0, .int .i64 0] 74) = w1 at *
  refine (validp_any l n q p c hl _ hR1).mono ?_
  rintro e w2 ⟨rfl, hg⟩
  have hrow := kept_row H0.out.1 hg (by simp)
  have hres := kept_row H0.out.2.1 hg (by simp)
  obtain ⟨c0, c1⟩ := row_cells hrow
  obtain ⟨r0, r1⟩ := row_cells hres
  have g0 := frozen_of_row _ _ 0 _ _ hres
  have g1 := frozen_of_row _ _ 1 _ _ hres
  have HG := Lib.hid (grown_trans H0.out.2.2.1 hg)
  have HRES := Lib.hid hres
  have HROW := Lib.hid hrow
  have HSZ : Hid (w.heap.size + 2 ≤ w2.heap.size) := Lib.hid (by rw [← H0.out.2.2.2]; exact hg.size)
  have hR2 := hR1.keep hg
  clear hrow hres hg hR1 H0
  obtain ⟨N, rfl⟩ := vs_nat hv
  obtain ⟨hN, hlen⟩ := vs_bits hv
  rw [hv]
  have hB := bytesFor_any N (by omega) w2
  rw [← hlen] at hB
  have H2 := Lib.hid hB
  have hl2 : l.length ≤ 1024 := by omega
  have hTi : 8 * (l.length : Int) = ((8 * l.length : Nat) : Int) := by omega
  have C := zeros_any (8 * l.length) (by omega) w2
  unfold ZerosPost at C
  rw [show (8 * l.length + 7) / 8 = l.length by omega] at C
  obtain ⟨T, hT⟩ : ∃ T : Nat, T = 8 * l.length := ⟨_, rfl⟩
  rw [← hT] at hTi C
  have H1 := Lib.hid C
  have HT := Lib.hid hT
  have hT8 : T ≤ 8192 := by omega
  clear hv hlen C hB hT
  go_wp2_with (first | (go_at_call 99; refine H2.out.mono ?_; rintro e w' ⟨rfl, rfl⟩))
  refine H1.out.mono ?_
  rintro e w3 ⟨g, rfl, hgg, hB3, hg3⟩
  have hrow := kept_row HROW.out hg3 (by simp)
  have hres := kept_row HRES.out hg3 (by simp)
  clear c0 c1 r0 r1 g0 g1
  obtain ⟨c0, c1⟩ := row_cells hrow
  have M4 := Lib.hid (made_of (W := w) (M := l.length) (T := (T : Int)) hB3 (by have := HG.out.size; omega) (grown_trans HG.out hg3))
  have HR4 := Lib.hid ((hR2.keep hg3).keep (World.grownBy_alloc w3 (.cells #[.slice (some ⟨g, 0, none⟩) l.length l.length, .int .i64 (T : Int)] 74) none))
  have n1 : ¬ w.heap.size = w3.heap.size := by have := HSZ.out; have := hg3.size; omega
  have n2 : w.heap.size ≠ w3.heap.size := n1
  have n3 : w.heap.size < w3.heap.size := by have := HSZ.out; have := hg3.size; omega
  have hgw : w.heap.size + 2 ≤ g := by have := HSZ.out; omega
  have HRES3 := Lib.hid (kept_row hres (World.grownBy_alloc w3 (.cells #[.slice (some ⟨g, 0, none⟩) l.length l.length, .int .i64 (T : Int)] 74) none) (by simp))
  clear hB3 hrow hres H1 hR2
  go_wp2_with (refine wpList_copy_into rfl _ _ rfl g l.length l.length rfl p l.length c rfl (List.replicate l.length 0) M4.out.blk (by simp) l rfl q HR4.out (Nat.le_refl _) ?_; intro w5 hB5 hg5; rw [List.drop_of_length_le (by simp), List.append_nil] at hB5; have M5 := Lib.hid (M4.out.next hg5 hB5); have HR5 := Lib.hid (kept_row HRES3.out hg5 (by intro e; have := Option.some.inj e; omega)); obtain ⟨e0, e1⟩ := row_cells M5.out.row; obtain ⟨r0, r1⟩ := row_cells HR5.out; have g0 := frozen_of_row _ _ 0 _ _ HR5.out; have g1 := frozen_of_row _ _ 1 _ _ HR5.out; clear hB5 hg5)
  refine bodyPost_ret (res_stream_err rfl _ _ (w.heap.size + 1) _ _ rfl (store2 HR5.out)) rfl ?_
  have gr := grown_store2 w5 (w.heap.size + 1) (.slice (some ⟨g, 0, none⟩) l.length l.length) (.int .i64 (T : Int))
  exact ⟨g, by rw [← HT.out]; rfl, M5.out.blk.grown gr (by intro e; have := Option.some.inj e; omega), M5.out.lo, grown_new M5.out.gr gr (by omega)⟩
end Go.Proofs.YtpabfjhjehjebaaDoor

/- Parts of the proof, packed: StWord, StRead, StMem, PkWrite, PkAlign, PkEncode. -/
import Derived.Test.YtpabfjhjehjebaaDoorSDec7
import Derived.Deep.CutRange
import Derived.Deep.RegionHeld3
import Derived.Deep.QuietTactic
import Derived.BigQuiet
import Derived.Test.YtpabfjhjehjebaaDoorSDec6
import Derived.Test.YtpabfjhjehjebaaDoorSDec5
/- stack: writeLabel, readLabel. -/
namespace Go.Proofs.YtpabfjhjehjebaaDoor
open Go.RowKit Bs
set_option maxRecDepth 100000 in
theorem or_join {a b k : Nat} (h : b < 2 ^ k) : a * 2 ^ k ||| b = a * 2 ^ k + b := by
  rw [Nat.mul_comm a, Nat.two_pow_add_eq_or_of_lt h]
set_option maxRecDepth 100000 in
theorem lab_word {v c h : Int} (hv : 0 ≤ v ∧ v ≤ 1048575) (hc : 0 ≤ c ∧ c ≤ 7) (hh : 0 ≤ h ∧ h ≤ 255) :
    bits .or .u32 (bits .or .u32 (v % 4294967296 * 4096 % 4294967296) (c % 4294967296 * 512 % 4294967296)) (h % 4294967296) = ((v.toNat * 4096 + c.toNat * 512 + h.toNat : Nat) : Int) := by
  obtain ⟨a, rfl⟩ := Int.eq_ofNat_of_zero_le hv.1
  obtain ⟨b, rfl⟩ := Int.eq_ofNat_of_zero_le hc.1
  obtain ⟨d, rfl⟩ := Int.eq_ofNat_of_zero_le hh.1
  have e1 : (a : Int) % 4294967296 * 4096 % 4294967296 = ((a * 4096 : Nat) : Int) := by omega
  have e2 : (b : Int) % 4294967296 * 512 % 4294967296 = ((b * 512 : Nat) : Int) := by omega
  have e3 : (d : Int) % 4294967296 = ((d : Nat) : Int) := by omega
  have o1 : a * 4096 ||| b * 512 = a * 4096 + b * 512 := or_join (k := 12) (by omega)
  have o2 : (a * 4096 + b * 512) ||| d = a * 4096 + b * 512 + d := by
    have := or_join (a := a * 8 + b) (b := d) (k := 9) (by omega)
    have e : (a * 8 + b) * 2 ^ 9 = a * 4096 + b * 512 := by omega
    rw [e] at this
    exact this
  rw [e1, e2, e3, u32_or_nat _ _ (by omega) (by omega), o1, u32_or_nat _ _ (by omega) (by omega), o2]
  simp
set_option maxRecDepth 100000 in
theorem lab_bot {x : Nat} (h : x % 512 < 256) (hx : x < 4294967296) : bits .or .u32 (x : Int) 256 = ((x + 256 : Nat) : Int) := by
  have e := u32_or_nat x 256 hx (by decide)
  rw [show ((256 : Nat) : Int) = 256 from rfl] at e
  rw [e]
  congr 1
  have h1 : x = x / 512 * 2 ^ 9 + x % 512 := by omega
  have h2 : x / 512 * 2 ^ 9 ||| x % 512 = x := by rw [or_join (k := 9) (by omega)]; exact h1.symm
  have h3 : x % 512 ||| 256 = 256 + x % 512 := by
    rw [Nat.or_comm]
    exact or_join (a := 1) (k := 8) (by omega)
  exact (calc x ||| 256 = (x / 512 * 2 ^ 9 ||| x % 512) ||| 256 := by rw [h2]
    _ = x / 512 * 2 ^ 9 ||| (256 + x % 512) := by rw [Nat.or_assoc, h3]
    _ = x / 512 * 2 ^ 9 + (256 + x % 512) := or_join (k := 9) (by omega)
    _ = x + 256 := by omega)
set_option maxRecDepth 100000 in
theorem by4_cells (n : Nat) : #[Value.int .u8 ((n : Int) / 16777216 % 256), .int .u8 ((n : Int) / 65536 % 256), .int .u8 ((n : Int) / 256 % 256), .int .u8 ((n : Int) % 256)] = ((by4 n).map nv).toArray := by
  simp [by4, nv]
set_option maxRecDepth 100000 in
set_option maxHeartbeats 1600000 in
theorem wlab_any (l : Lab) (z : Bool) (hv : vlab l = true) (w : World) :
    Calls Tryd.prog 67 #[.agg #[.int .i64 l.v, .int .i64 l.c, .int .i64 l.h], .bool z] w fun e w' =>
      ∃ g, e = .returned (.slice (some ⟨g, 0, none⟩) 4 4) ∧ w'.heap[g]? = some (.cells ((by4 (wordL l z)).map nv).toArray 5 (0, 0)) ∧ w.heap.size ≤ g ∧ w.grownBy w' none := by
  obtain ⟨k1, k2⟩ := sone_box w #[.int .i64 l.v, .int .i64 l.c, .int .i64 l.h] 55
  obtain ⟨c0, c1, c2⟩ := lab_facts k1
  clear k1 k2
  have hb := lab_back hv z
  rw [vlab_iff] at hv
  obtain ⟨h1, h2, h3⟩ := hv
  have hE := lab_word h1 h2 h3
  have HB := Lib.hid (lab_bot (x := l.v.toNat * 4096 + l.c.toNat * 512 + l.h.toNat) (by omega) (by omega))
  have HE := Lib.hid hE

  clear hE hb h1 h2 h3
  go_enter Tryd.func67, Tryd.ntmps67
  cases z
  · go_wp2_with fail
    go_ret
    rw [HE.out]
    obtain ⟨k1, k2, k3, k4⟩ := two_boxes w #[.int .i64 l.v, .int .i64 l.c, .int .i64 l.h] ((by4 (wordL l false)).map nv).toArray 55 5
    refine ⟨w.heap.size + 1, rfl, ?_, by omega, ?_⟩
    · rw [← by4_cells] at k2 ⊢
      exact k2
    · rw [← by4_cells] at k3
      exact k3
  · go_wp2_with fail
    go_ret
    rw [HE.out, HB.out]
    obtain ⟨k1, k2, k3, k4⟩ := two_boxes w #[.int .i64 l.v, .int .i64 l.c, .int .i64 l.h] ((by4 (wordL l true)).map nv).toArray 55 5
    refine ⟨w.heap.size + 1, rfl, ?_, by omega, ?_⟩
    · rw [← by4_cells] at k2 ⊢
      exact k2
    · rw [← by4_cells] at k3
      exact k3
end Go.Proofs.YtpabfjhjehjebaaDoor

/- stack: readLabel. -/
namespace Go.Proofs.YtpabfjhjehjebaaDoor
open Go.RowKit Bs
set_option maxRecDepth 100000 in
theorem rd_cells {w : World} {q : Nat → Prop} {p : Option Addr} {n c : Nat} {L : List Nat} (h : Rd w q (.slice p n c) (L.map nv)) (hn : 0 < L.length) :
    ∃ b off, p = some ⟨b, off, none⟩ ∧ q b ∧ ∀ i, i < L.length → w.cell? ⟨b, off + i, none⟩ = some (.int .u8 ((L.getD i 0 : Nat) : Int)) := by
  obtain ⟨p1, c1, e1, hx⟩ := h
  injection e1 with a1 a2 a3
  subst a1
  obtain ⟨b, off, hp, hq, hc⟩ := hx (by intro e; have := congrArg List.length e; simp at this; subst this; simp at hn)
  refine ⟨b, off, hp, hq, fun i hi => hc i _ ?_⟩
  rw [List.getElem?_map, List.getElem?_eq_getElem hi, List.getD_eq_getElem?_getD, List.getElem?_eq_getElem hi]; rfl
set_option maxRecDepth 100000 in
theorem word_or {a b c d : Nat} (ha : a < 256) (hb : b < 256) (hc : c < 256) (hd : d < 256) :
    bits .or .u32 (bits .or .u32 (bits .or .u32 (((a : Nat) : Int) * 16777216) ((b : Nat) * 65536)) ((c : Nat) * 256)) (d : Nat) = ((a * 16777216 + b * 65536 + c * 256 + d : Nat) : Int) := by
  have e1 : ((a : Nat) : Int) * 16777216 = ((a * 16777216 : Nat) : Int) := by omega
  have e2 : ((b : Nat) : Int) * 65536 = ((b * 65536 : Nat) : Int) := by omega
  have e3 : ((c : Nat) : Int) * 256 = ((c * 256 : Nat) : Int) := by omega
  have o1 : a * 16777216 ||| b * 65536 = a * 16777216 + b * 65536 := or_join (k := 24) (by omega)
  have o2 : (a * 16777216 + b * 65536) ||| c * 256 = a * 16777216 + b * 65536 + c * 256 := by
    have := or_join (a := a * 256 + b) (b := c * 256) (k := 16) (by omega)
    have e : (a * 256 + b) * 2 ^ 16 = a * 16777216 + b * 65536 := by omega
    rw [e] at this
    exact this
  have o3 : (a * 16777216 + b * 65536 + c * 256) ||| d = a * 16777216 + b * 65536 + c * 256 + d := by
    have := or_join (a := a * 65536 + b * 256 + c) (b := d) (k := 8) (by omega)
    have e : (a * 65536 + b * 256 + c) * 2 ^ 8 = a * 16777216 + b * 65536 + c * 256 := by omega
    rw [e] at this
    exact this
  rw [e1, e2, e3, u32_or_nat _ _ (by omega) (by omega), o1, u32_or_nat _ _ (by omega) (by omega), o2, u32_or_nat _ _ (by omega) (by omega), o3]
set_option maxRecDepth 100000 in
theorem store3 {w : World} {b : Nat} {x y z u v t : Value} {T : TypeId} (h : w.heap[b]? = some (.cells #[x, y, z] T (0, 0))) : (((w.setCell ⟨b, 0, none⟩ u).setCell ⟨b, 1, none⟩ v).setCell ⟨b, 2, none⟩ t).heap[b]? = some (.cells #[u, v, t] T (0, 0)) := by
  have e0 := heap_setCell_same _ b 0 _ _ u h
  have e1 := heap_setCell_same _ b 1 _ _ v e0
  exact heap_setCell_same _ b 2 _ _ t e1
set_option maxRecDepth 100000 in
theorem grown_store3 (w : World) (b : Nat) (u v t : Value) : w.grownBy (((w.setCell ⟨b, 0, none⟩ u).setCell ⟨b, 1, none⟩ v).setCell ⟨b, 2, none⟩ t) (some b) := grown_trans (grown_store2 w b u v) (grown_setCell _ ⟨b, 2, none⟩ t)
set_option maxRecDepth 100000 in
theorem lab_size : (Tryd.prog.info? 55).map (·.size) = some 3 := by kernel_rfl
set_option maxRecDepth 100000 in
theorem res_lab_bool {fn : Func} {p u : Tmp} (h : fn.results = #[.cell p 55, .tmp u]) (tmps : Array Value) (w : World) (g : Nat) (xs : Array Value) (hp : tmps.getD p undef = .pointer (some ⟨g, 0, none⟩)) (hn : xs.size = 3) (hg : w.heap[g]? = some (.cells xs 55 (0, 0))) :
    (results fn tmps).run Tryd.prog w = .ok (.tuple #[.agg xs, tmps.getD u undef]) w := by
  have hp' : tmps[p]?.getD undef = .pointer (some ⟨g, 0, none⟩) := by simpa using hp
  rw [results_cell_tmp h]
  simp [hp', asAddr, run_loadVar_row w g _ _ _ _ _ hg Tryd.underlying55 rfl (by rw [hn]; exact lab_size), Result.andThen]
set_option maxRecDepth 100000 in
set_option maxHeartbeats 1600000 in
theorem rdlab_any (L : List Nat) (hL : By L) (h4 : 4 ≤ L.length) (q : Nat → Prop) (p : Option Addr) (c : Nat) (w : World) (hR : Rd w q (.slice p L.length c) (L.map nv)) :
    Calls Tryd.prog 53 #[.slice p L.length c] w fun e w' => e = .returned (.tuple #[.agg #[.int .i64 (labN (word4 L 0)).v, .int .i64 (labN (word4 L 0)).c, .int .i64 (labN (word4 L 0)).h], .bool (botN (word4 L 0))]) ∧ w.grownBy w' none := by
  obtain ⟨k1, k2⟩ := sone_box w #[.int .i64 0, .int .i64 0, .int .i64 0] 55
  have HB := Lib.hid (And.intro k1 k2)
  obtain ⟨b, off, rfl, hq, hc⟩ := rd_cells (hR.keep k2) (by omega)
  have c0 := hc 0 (by omega)
  rw [Nat.add_zero] at c0
  have l0 : 0 < L.length := by omega
  have l1 : 1 < L.length := by omega
  have l2 : 2 < L.length := by omega
  have l3 : 3 < L.length := by omega
  have c1 := hc 1 (by omega)
  have c2 := hc 2 (by omega)
  have c3 := hc 3 (by omega)
  have y0 := hL.at_ (j := 0) (by omega)
  have y1 := hL.at_ (j := 1) (by omega)
  have y2 := hL.at_ (j := 2) (by omega)
  have y3 := hL.at_ (j := 3) (by omega)
  have HW : Hid (word4 L 0 = L.getD 0 0 * 16777216 + L.getD 1 0 * 65536 + L.getD 2 0 * 256 + L.getD 3 0) := Lib.hid rfl
  have HO := Lib.hid (word_or y0 y1 y2 y3)
  have HY := Lib.hid (word4_lt hL 0)
  clear k1 k2 hR hc hL
  go_enter Tryd.func53, Tryd.ntmps53
  go_upto_region 1 with fail
  generalize w.alloc _ = wa at *
  generalize L.getD 0 0 = x0 at *
  generalize L.getD 1 0 = x1 at *
  generalize L.getD 2 0 = x2 at *
  generalize L.getD 3 0 = x3 at *
  go_wp2_with fail
  go_region
  rw [HO.out, ← HW.out]
  obtain ⟨n, hn⟩ : ∃ n, word4 L 0 = n := ⟨_, rfl⟩
  rw [hn] at HY ⊢
  have HN := Lib.hid hn
  have B1 := u32_and_nat (n / 512) 7 (by have := HY.out; omega) (by decide)
  have B2 := u32_and_nat n 255 HY.out (by decide)
  have B3 := u32_and_nat (n / 256) 1 (by have := HY.out; omega) (by decide)
  have HZ := Lib.hid (And.intro B1 (And.intro B2 B3))
  clear B1 B2 B3 c0 c1 c2 c3 y0 y1 y2 y3 HO HW hn
  have HB2 : Hid (wa.drew.heap[w.heap.size]? = some (.cells #[.int .i64 0, .int .i64 0, .int .i64 0] 55 (0, 0)) ∧ w.grownBy wa.drew none) := Lib.hid ⟨HB.out.1, grown_drew HB.out.2⟩
  clear HB
  generalize wa.drew = wb at *
  have d0 := HB2.out.1
  have f0 := frozen_of_row _ _ 0 _ _ d0
  have f1 := frozen_of_row _ _ 1 _ _ d0
  have f2 := frozen_of_row _ _ 2 _ _ d0
  obtain ⟨e0, e1, e2⟩ := lab_facts (l := ⟨0, 0, 0⟩) d0
  simp only at e0 e1 e2
  clear d0
  go_wp2_with fail
  have hY := HY.out
  obtain ⟨B1, B2, B3⟩ := HZ.out
  refine bodyPost_ret (res_lab_bool rfl _ _ w.heap.size _ rfl rfl (store3 HB2.out.1)) rfl ?_
  rw [HN.out]
  have a1 : wrap64 ((n : Int) / 4096) = ((n / 4096 : Nat) : Int) := by unfold wrap64; omega
  have a2 : wrap64 (bits .and .u32 ((n : Int) / 512) 7) = ((n / 512 % 8 : Nat) : Int) := by
    rw [show (n : Int) / 512 = ((n / 512 : Nat) : Int) by omega, show (7 : Int) = ((7 : Nat) : Int) from rfl, B1, Nat.and_two_pow_sub_one_eq_mod (n / 512) 3]
    unfold wrap64; omega
  have a3 : wrap64 (bits .and .u32 (n : Int) 255) = ((n % 256 : Nat) : Int) := by
    rw [show (255 : Int) = ((255 : Nat) : Int) from rfl, B2, Nat.and_two_pow_sub_one_eq_mod n 8]
    unfold wrap64; omega
  have a4 : (bits .and .u32 ((n : Int) / 256) 1 == 1) = botN n := by
    rw [show (n : Int) / 256 = ((n / 256 : Nat) : Int) by omega, show (1 : Int) = ((1 : Nat) : Int) from rfl, B3, Nat.and_two_pow_sub_one_eq_mod (n / 256) 1]
    unfold botN
    rw [Bool.eq_iff_iff, beq_iff_eq, beq_iff_eq]
    omega
  refine ⟨?_, grown_new HB2.out.2 (grown_store3 _ _ _ _ _) (Nat.le_refl _)⟩
  show Ending.returned (.tuple #[.agg #[.int .i64 (wrap64 ((n : Int) / 4096)), .int .i64 (wrap64 (bits .and .u32 ((n : Int) / 512) 7)), .int .i64 (wrap64 (bits .and .u32 (n : Int) 255))], .bool (bits .and .u32 ((n : Int) / 256) 1 == 1)]) = _
  rw [a1, a2, a3, a4]
  rfl
end Go.Proofs.YtpabfjhjehjebaaDoor

/- Slices of labels in memory. -/
namespace Go.Proofs.YtpabfjhjehjebaaDoor
open Go.RowKit Bs
/-- The slice value v has n elements, whose cells are xs. -/
def RdK (w : World) (q : Nat → Prop) (v : Value) (n : Nat) (xs : List Value) : Prop :=
  ∃ p c, v = .slice p n c ∧ (xs ≠ [] → ∃ b off, p = some ⟨b, off, none⟩ ∧ q b ∧ ∀ i x, xs[i]? = some x → w.cell? ⟨b, off + i, none⟩ = some x)
set_option maxRecDepth 100000 in
theorem RdK.keep {w w' : World} {q : Nat → Prop} {v : Value} {n : Nat} {xs : List Value} (h : RdK w q v n xs) (g : w.grownBy w' none) : RdK w' q v n xs := by
  obtain ⟨p, c, hv, hc⟩ := h
  refine ⟨p, c, hv, fun hne => ?_⟩
  obtain ⟨b, off, hp, hb, hx⟩ := hc hne
  exact ⟨b, off, hp, hb, fun i x hi => g.cell (hx i x hi) (by simp)⟩
set_option maxRecDepth 100000 in
theorem RdK.mono {w : World} {q q' : Nat → Prop} {v : Value} {n : Nat} {xs : List Value} (h : RdK w q v n xs) (hq : ∀ b, q b → q' b) : RdK w q' v n xs := by
  obtain ⟨p, c, hv, hc⟩ := h
  refine ⟨p, c, hv, fun hne => ?_⟩
  obtain ⟨b, off, hp, hb, hx⟩ := hc hne
  exact ⟨b, off, hp, hq b hb, hx⟩
set_option maxRecDepth 100000 in
theorem rdk_nil (w : World) (q : Nat → Prop) (p : Option Addr) (c : Nat) : RdK w q (.slice p 0 c) 0 [] := ⟨p, c, rfl, fun h => absurd rfl h⟩
set_option maxRecDepth 100000 in
theorem rdk_of_own {w : World} {base size : Nat} {e : TypeId} {v : Value} {n : Nat} {xs : List Value} (h : w.ownsRow base e size v n xs) : RdK w (base ≤ ·) v n xs := by
  rcases h.2 with ⟨rfl, h0⟩ | ⟨g, cap, cur, rfl, hb, hg, _⟩
  · subst h0
    have hl : xs = [] := List.eq_nil_of_length_eq_zero (by have := h.1; omega)
    exact ⟨none, 0, rfl, fun hne => absurd hl hne⟩
  · refine ⟨some ⟨g, 0, none⟩, cap, rfl, fun _ => ⟨g, 0, rfl, hb, fun i x hi => ?_⟩⟩
    have := h.cells (g := g) rfl i x hi
    have hadd : (⟨g, 0, none⟩ : Addr).add i = ⟨g, 0 + i, none⟩ := by unfold Addr.add; split <;> simp_all
    rw [hadd] at this
    exact this
/-- The cells of labels. -/
def labsC (ls : List Lab) : List Value := ls.flatMap labC
set_option maxRecDepth 100000 in
theorem labsC_snoc (ls : List Lab) (l : Lab) : labsC (ls ++ [l]) = labsC ls ++ labC l := by unfold labsC; simp
set_option maxRecDepth 100000 in
theorem labsC_len : ∀ ls : List Lab, (labsC ls).length = 3 * ls.length
  | [] => rfl
  | l :: ls => by
    show (labC l ++ labsC ls).length = _
    rw [List.length_append, labsC_len ls, List.length_cons]
    show 3 + _ = _
    omega
set_option maxRecDepth 100000 in
theorem labsC_at : ∀ (ls : List Lab) (i k : Nat) (l : Lab), ls[i]? = some l → k < 3 → (labsC ls)[3 * i + k]? = (labC l)[k]?
  | [], i, k, l, h, _ => by simp at h
  | m :: ls, 0, k, l, h, hk => by
    obtain rfl : m = l := by simpa using h
    show (labC m ++ labsC ls)[3 * 0 + k]? = _
    rw [List.getElem?_append_left (by show _ < 3; omega), Nat.mul_zero, Nat.zero_add]
  | m :: ls, i + 1, k, l, h, hk => by
    show (labC m ++ labsC ls)[3 * (i + 1) + k]? = _
    rw [List.getElem?_append_right (by show 3 ≤ _; omega), show 3 * (i + 1) + k - (labC m).length = 3 * i + k by show 3 * (i + 1) + k - 3 = _; omega]
    exact labsC_at ls i k l (by simpa using h) hk
def RdL (w : World) (q : Nat → Prop) (v : Value) (ls : List Lab) : Prop := RdK w q v ls.length (labsC ls)
set_option maxRecDepth 100000 in
theorem RdL.keep {w w' : World} {q : Nat → Prop} {v : Value} {ls : List Lab} (h : RdL w q v ls) (g : w.grownBy w' none) : RdL w' q v ls := RdK.keep h g
set_option maxRecDepth 100000 in
theorem RdL.cells {w : World} {q : Nat → Prop} {p : Option Addr} {n c : Nat} {ls : List Lab} (h : RdL w q (.slice p n c) ls) (hn : 0 < ls.length) :
    n = ls.length ∧ ∃ b off, p = some ⟨b, off, none⟩ ∧ q b ∧ ∀ i (hi : i < ls.length), w.cell? ⟨b, off + i * 3, none⟩ = some (.int .i64 (ls[i]).v) ∧ w.cell? ⟨b, off + i * 3 + 1, none⟩ = some (.int .i64 (ls[i]).c) ∧ w.cell? ⟨b, off + i * 3 + 2, none⟩ = some (.int .i64 (ls[i]).h) := by
  obtain ⟨p1, c1, e1, hx⟩ := h
  injection e1 with a1 a2 a3
  subst a1
  obtain ⟨b, off, hp, hq, hc⟩ := hx (by intro e; have := congrArg List.length e; rw [labsC_len] at this; simp only [List.length_nil] at this; omega)
  refine ⟨a2, b, off, hp, hq, fun i hi => ?_⟩
  have hl := List.getElem?_eq_getElem hi
  rw [Nat.add_assoc, Nat.add_assoc, Nat.mul_comm i 3]
  exact ⟨hc _ _ (labsC_at ls i 0 _ hl (by decide)), hc _ _ (labsC_at ls i 1 _ hl (by decide)), hc _ _ (labsC_at ls i 2 _ hl (by decide))⟩
/-- Labels in a row of the call's own. -/
abbrev OwnL (w : World) (base : Nat) (v : Value) (ls : List Lab) : Prop := w.ownsRow base 55 3 v ls.length (labsC ls)
set_option maxRecDepth 100000 in
theorem info_lab : (Tryd.prog.info? 55).map (fun i => (i.zero, i.size, i.bytes)) = some (some (.agg #[.int .i64 0, .int .i64 0, .int .i64 0]), 3, 24) := by kernel_rfl
set_option maxRecDepth 100000 in
/-- The bytes behind a place. -/
theorem rd_drop {w : World} {q : Nat → Prop} {b off n c : Nat} {L : List Nat} (h : Rd w q (.slice (some ⟨b, off, none⟩) n c) (L.map nv)) (k c2 : Nat) : Rd w q (.slice (some ⟨b, off + k, none⟩) (L.drop k).length c2) ((L.drop k).map nv) := by
  obtain ⟨p1, c1, e1, hx⟩ := h
  injection e1 with a1 a2 a3
  subst a1
  refine ⟨_, c2, by rw [List.length_map], fun hne => ?_⟩
  have hne2 : L.map nv ≠ [] := by
    intro e
    apply hne
    rw [List.map_drop, e]; simp
  obtain ⟨b2, off2, hp, hq, hc⟩ := hx hne2
  obtain ⟨rfl, rfl⟩ : b = b2 ∧ off = off2 := by simpa using hp
  refine ⟨b, off + k, rfl, hq, fun i x hi => ?_⟩
  rw [List.map_drop, List.getElem?_drop] at hi
  rw [Nat.add_assoc]
  exact hc _ _ hi
set_option maxRecDepth 100000 in
theorem By.drop {L : List Nat} (h : By L) (k : Nat) : By (L.drop k) := fun x hx => h x (List.mem_of_mem_drop hx)
set_option maxRecDepth 100000 in
theorem word4_drop (L : List Nat) (k : Nat) : word4 (L.drop (4 * k)) 0 = word4 L k := by
  have f : ∀ j, (L.drop (4 * k)).getD j 0 = L.getD (4 * k + j) 0 := by
    intro j
    rw [List.getD_eq_getElem?_getD, List.getElem?_drop, ← List.getD_eq_getElem?_getD]
  unfold word4
  rw [f, f, f, f]
  rfl
set_option maxRecDepth 100000 in
theorem cells3 (w : World) (x y z : Value) (t : TypeId) : ∀ j u, [x, y, z][j]? = some u → (w.alloc (.cells #[x, y, z] t)).cell? ((⟨w.heap.size, 0, none⟩ : Addr).add j) = some u := by
  intro j u hj
  have hb : (w.alloc (.cells #[x, y, z] t)).heap[w.heap.size]? = some (.cells #[x, y, z] t (0, 0)) := heap_alloc_new w _
  have hadd : (⟨w.heap.size, 0, none⟩ : Addr).add j = ⟨w.heap.size, j, none⟩ := by rw [add_plain, Nat.zero_add]
  rw [hadd, cell_of_row _ _ _ _ _ _ hb]
  simpa using hj
end Go.Proofs.YtpabfjhjehjebaaDoor

/- packet: the header of a packet is written. -/
namespace Go.Proofs.YtpabfjhjehjebaaDoor
open Go.RowKit Bs
set_option maxRecDepth 100000 in
set_option maxHeartbeats 600000 in
theorem writeHeader_any (P : Pk) (hv : vpk P = true) (w : World) (hT : Tb w) :
    Calls Tryd.prog 85 #[P.val] w fun e w' => BP (flb (fl P)) w e w' := by
  unfold Pk.val
  go_enter Tryd.func85, Tryd.ntmps85
  go_wp2_with fail
  obtain ⟨k1, k2, k3, k4⟩ := two_boxes w (pcells P) #[.slice none 0 0, .int .i64 0] 31 74
  have RP := Lib.hid k1
  have RS := Lib.hid k2
  have G := Lib.hid k3
  have SZ := Lib.hid k4
  have HTB := Lib.hid (hT.keep k3)
  clear k1 k2 k3 k4
  unfold pcells at RP RS G SZ HTB
  generalize ((w.alloc (.cells #[.int .i64 P.mode, .int .i64 P.sub, .int .i64 P.set, .int .i64 P.len, .int .i64 P.ttl, .int .i64 P.ent, .int .i64 P.ing, .int .i64 P.pro, .int .u64 (P.bits : Int), .string P.pay] 31)).alloc (.cells #[.slice none 0 0, .int .i64 0] 74)) = w2 at *
  change Hid (w2.heap[w.heap.size]? = some (.cells (pcells P) 31 (0, 0))) at RP
  obtain ⟨a0, a1, a2, a3, a4, a5, a6, a7, a8, a9⟩ := p_facts RP.out
  have RPZ := Lib.hid (kept_row RP.out (World.grownBy_alloc w2 (.cells zcells 88) none) (by simp))
  have RHZ := Lib.hid (heap_alloc_new w2 (.cells zcells 88))
  have RPd : Hid (w2.drew.heap[w.heap.size]? = some (.cells (pcells P) 31 (0, 0))) := Lib.hid RP.out
  have RPZd : Hid ((w2.alloc (.cells zcells 88)).drew.heap[w.heap.size]? = some (.cells (pcells P) 31 (0, 0))) := Lib.hid RPZ.out
  have SZ2 : Hid (w.heap.size ≠ w2.heap.size) := Lib.hid (by rw [SZ.out]; omega)
  have RPH : Hid ((w2.alloc (.cells (hcells P) 88)).drew.heap[w.heap.size]? = some (.cells (pcells P) 31 (0, 0))) := Lib.hid (kept_row RP.out (grown_drew (World.grownBy_alloc w2 (.cells (hcells P) 88) none)) (by simp))
  have RH : Hid ((w2.alloc (.cells (hcells P) 88)).drew.heap[w2.heap.size]? = some (.cells (hcells P) 88 (0, 0))) := Lib.hid (heap_alloc_new w2 (.cells (hcells P) 88))
  have GH : Hid (w.grownBy (w2.alloc (.cells (hcells P) 88)).drew none) := Lib.hid (grown_trans G.out (grown_drew (World.grownBy_alloc w2 (.cells (hcells P) 88) none)))
  have RS3 : Hid ((w2.alloc (.cells (hcells P) 88)).drew.heap[w.heap.size + 1]? = some (.cells #[.slice none 0 0, .int .i64 0] 74 (0, 0))) := Lib.hid (kept_row RS.out (grown_drew (World.grownBy_alloc w2 (.cells (hcells P) 88) none)) (by simp))
  obtain ⟨w3, hw3⟩ : ∃ w3, w3 = (w2.alloc (.cells (hcells P) 88)).drew := ⟨_, rfl⟩
  rw [← hw3] at RH GH RS3
  unfold hcells at RPH hw3
  unfold zcells at RPZ RPZd
  obtain ⟨f0, f1, f2, f3, f4, f5, f6, f7, f8, f9, f10, f11, f12⟩ := h_facts RHZ.out
  unfold zcells at f0 f1 f2 f3 f4 f5 f6 f7 f8 f9 f10 f11 f12
  have hvl := vb_vl (vpk_parts hv).2.2.2.2.2.2.2.2
  have HL : Hid (IntKind.u64.wrap (IntKind.i64.wrap (P.len.tdiv 8)) = ((P.len.toNat / 8 : Nat) : Int)) := Lib.hid (by rcases vl_cases hvl with h | h | h | h <;> rw [h] <;> decide)
  have HF := Lib.hid (fst_code hvl)
  have HU : Hid (U64 (P.len.toNat / 8)) := Lib.hid (by rcases vl_cases hvl with h | h | h | h <;> rw [h] <;> (unfold U64; decide))
  clear hvl
  go_cut [3] from 7 to 16 (fun hh wx => hh = .pointer (some ⟨w2.heap.size, 0, none⟩) ∧ wx = w3)
  case first =>
    go_region_held3 (fun w' => w'.cell? ⟨w.heap.size, 0, none⟩ = some (.int .i64 P.mode) ∧ w'.cell? ⟨w.heap.size, 1, none⟩ = some (.int .i64 P.sub) ∧ w'.cell? ⟨w.heap.size, 2, none⟩ = some (.int .i64 P.set) ∧ w'.cell? ⟨w.heap.size, 3, none⟩ = some (.int .i64 P.len) ∧ w'.cell? ⟨w.heap.size, 4, none⟩ = some (.int .i64 P.ttl) ∧ w'.cell? ⟨w.heap.size, 5, none⟩ = some (.int .i64 P.ent) ∧ w'.cell? ⟨w.heap.size, 6, none⟩ = some (.int .i64 P.ing) ∧ w'.cell? ⟨w.heap.size, 7, none⟩ = some (.int .i64 P.pro) ∧ w'.cell? ⟨w.heap.size, 8, none⟩ = some (.int .u64 (P.bits : Int)) ∧ w'.cell? ⟨w.heap.size, 9, none⟩ = some (.string P.pay))
      (first | (with_reducible exact p_facts RP.out) | (with_reducible exact p_facts RPd.out) | (with_reducible exact p_facts RPZ.out) | (with_reducible exact p_facts RPZd.out) | (with_reducible exact p_facts RPH.out))
      ((go_at_call 97; go_split_ands; simp only [HL.out]; refine (firstp_any _ HU.out _ (HTB.out.keep ?_)).mono ?_; (focus (repeat (first | (with_reducible exact grown_refl _ _) | apply grown_drew | (with_reducible exact World.grownBy_alloc _ _ _)))); rintro e w' ⟨rfl, rfl⟩; rw [HF.out]))
    all_goals
      rw [← hw3]
      go_wp2_with fail
      go_meet
      exact ⟨rfl, rfl⟩
  case rest =>
    obtain ⟨rfl, rfl⟩ := hcut
    clear a0 a1 a2 a3 a4 a5 a6 a7 a8 a9 f0 f1 f2 f3 f4 f5 f6 f7 f8 f9 f10 f11 f12 RPH RPZ RPZd RPd RP RS HL HF HU hw3 HTB RHZ
    go_wp2_with fail
    refine (fields_any w2.heap.size _).mono ?_
    rintro e w5 ⟨g, rfl, hfb, hge, hg5⟩
    obtain ⟨q1, q2⟩ := one_box wc #[.slice none 0 0, .int .i64 0] 74
    have hSw : w2.heap.size < wc.heap.size := World.lt_of_row' RH.out
    have hge2 : wc.heap.size < g := by have : (wc.alloc (.cells #[.slice none 0 0, .int .i64 0] 74)).heap.size = wc.heap.size + 1 := by simp
                                       omega
    have hW : Hid (WH w P w2.heap.size g wc.heap.size (flb ((fl P).take 0)) w5) := by
      rw [show flb ((fl P).take 0) = [] from rfl]
      refine Lib.hid ⟨hfb, kept_row RH.out (grown_trans q2 hg5) (by simp), ⟨none, 0, ?_, ?_, fun _ => rfl⟩, kept_row RS3.out (grown_trans q2 hg5) (by simp), grown_trans GH.out (grown_trans q2 hg5)⟩
      · rw [show pk [] = [] from rfl]; exact kept_row q1 hg5 (by simp)
      · rw [show pk [] = [] from rfl]; exact Rd.nil_ _ _ _ _
    have HN : Hid (wc.heap.size ≠ w2.heap.size ∧ wc.heap.size ≠ g ∧ w.heap.size + 2 ≤ wc.heap.size) := Lib.hid ⟨by omega, by omega, by rw [SZ.out] at hSw; omega⟩
    clear RS3 GH RH q1 q2 hfb hge hg5 hSw hge2 SZ SZ2 G
    go_wp2_with fail
    go_loopw [19] (fun i wr => ∃ k : Nat, k ≤ 10 ∧ i = .int .i64 (k : Int) ∧ Hid (WH w P w2.heap.size g wc.heap.size (flb ((fl P).take k)) wr)) (fun i _ => (10 - (intOf i).toNat))
    case atStart => exact ⟨0, Nat.zero_le _, rfl, hW⟩
    case round =>
      obtain ⟨k, hk, rfl, hR⟩ := hrel
      clear hW
      by_cases hk2 : k < 10
      · obtain ⟨o, wd, x, hc0, hc1, hc2, hx, hwd, hfl⟩ := field_at hv w2.heap.size k hk2
        have d0 := (cell_of_row _ _ _ _ _ _ hR.out.fb).trans hc0
        have d1 := (cell_of_row _ _ _ _ _ _ hR.out.fb).trans hc1
        have d2 := (cell_of_row _ _ _ _ _ _ hR.out.hb).trans hc2
        have hle := flb_take_le P k
        have hsn := flb_snoc hfl
        generalize flb ((fl P).take k) = B at *
        obtain ⟨B2, hB2⟩ : ∃ B2, B2 = flb ((fl P).take (k + 1)) := ⟨_, rfl⟩
        rw [← hB2] at hsn
        have HB2 := Lib.hid hB2
        clear hB2
        have HSN := Lib.hid hsn
        have HR := hR
        clear hfl hc0 hc1 hc2 hsn hR
        go_wp2_with fail
        have HRf := Lib.hid (HR.out.keep (World.grownBy_alloc wr (.cells #[.pointer (some ⟨w2.heap.size, o, none⟩), .int .i64 (wd : Int)] 111) none))
        have RF := Lib.hid (heap_alloc_new wr (.cells #[.pointer (some ⟨w2.heap.size, o, none⟩), .int .i64 (wd : Int)] 111))
        have d2 := (World.grownBy_alloc wr (.cells #[.pointer (some ⟨w2.heap.size, o, none⟩), .int .i64 (wd : Int)] 111) none).cell d2 (by simp)
        clear d0 d1 HR
        generalize wr.alloc (.cells #[.pointer (some ⟨w2.heap.size, o, none⟩), .int .i64 (wd : Int)] 111) = wf at *
        obtain ⟨p, c, hs, hRd, hpc⟩ := HRf.out.st
        obtain ⟨s0, s1⟩ := row_cells hs
        have x0 : wf.cell? ⟨wr.heap.size, 0, none⟩ = some (.pointer (some ⟨w2.heap.size, o, none⟩)) := cell_of_row _ _ _ _ _ _ RF.out
        have x1 : wf.cell? ⟨wr.heap.size, 1, none⟩ = some (.int .i64 (wd : Int)) := cell_of_row _ _ _ _ _ _ RF.out
        have HX : Hid (IntKind.u64.wrap (x : Int) = (x : Int)) := Lib.hid (by have : x < 2 ^ 10 := Nat.lt_of_lt_of_le hx (Nat.pow_le_pow_right (by decide) hwd); rw [IntKind.wrap_u64]; omega)
        have HA := Lib.hid fun (w' : World) (hg : wf.grownBy w' none) => append_bits (B := B) (v := x) (k := wd) (Nat.le_trans hwd (by decide)) hx (by omega) (hRd.keep hg)
        rw [← HSN.out] at HA
        clear hs hRd hpc RF
        go_region_law (first
          | (go_simp; go_at_call 86; (try simp only [HX.out]); refine (HA.out _ (grown_drew (grown_refl _ _))).mono ?_; rintro e w7 ⟨p2, c2, rfl, hR2, hp2, hg7⟩; have H7 := Lib.hid ((HRf.out.keep (grown_drew (grown_refl _ none))).keep hg7); have R7 := Lib.hid (And.intro hR2 hp2); obtain ⟨p7, c7, hs7, _, _⟩ := H7.out.st; obtain ⟨t0, t1⟩ := row_cells hs7; have z0 := frozen_of_row _ _ 0 _ _ hs7; have z1 := frozen_of_row _ _ 1 _ _ hs7; clear hR2 hp2 hg7 hs7))
        all_goals
          have HK : Hid (WH w P w2.heap.size g wc.heap.size B2 ((w7.setCell ⟨wc.heap.size, 0, none⟩ (.slice p2 (pk B2).length c2)).setCell ⟨wc.heap.size, 1, none⟩ (.int .i64 (B2.length : Int)))) := Lib.hid (H7.out.turn HN.out (R7.out.1.weaken fun b hb _ => Nat.lt_of_lt_of_le (World.lt_of_row' HRf.out.st.choose_spec.choose_spec.1) hb) R7.out.2)
          clear t0 t1 z0 z1 s0 s1 x0 x1 HA d2 H7 R7
          generalize (w7.setCell ⟨wc.heap.size, 0, none⟩ (.slice p2 (pk B2).length c2)).setCell ⟨wc.heap.size, 1, none⟩ (.int .i64 (B2.length : Int)) = w8 at *
          go_wp2_with fail
          go_roundw
          case rel => exact ⟨k + 1, by omega, by go_num, by rw [← HB2.out]; exact HK⟩
          case measure => simp [intOf]; omega
      · obtain rfl : k = 10 := by omega
        rw [show (fl P).take 10 = fl P from rfl] at hR
        obtain ⟨p, c, hs, hRd, hpc⟩ := hR.out.st
        obtain ⟨s0, s1⟩ := row_cells hs
        obtain ⟨r0, r1⟩ := row_cells hR.out.rb
        have z0 := frozen_of_row _ _ 0 _ _ hR.out.rb
        have z1 := frozen_of_row _ _ 1 _ _ hR.out.rb
        have HQ := Lib.hid (And.intro hRd hpc)
        clear hs hRd hpc
        go_wp2_with fail
        have hS := HN.out.2.2
        have k2 := grown_store2 wr (w.heap.size + 1) (.slice p (pk (flb (fl P))).length c) (.int .i64 ((flb (fl P)).length : Int))
        refine bodyPost_ret (res_stream rfl _ _ (w.heap.size + 1) _ _ rfl (store2 hR.out.rb)) rfl ?_
        exact ⟨p, c, rfl, (HQ.out.1.weaken (q' := fun b => w.heap.size + 2 ≤ b) fun b hb _ => by omega).grown k2 (fun b hb e => by have := Option.some.inj e; omega) |>.weaken fun b hb _ => by omega, HQ.out.2, grown_new hR.out.gr k2 (by omega)⟩
end Go.Proofs.YtpabfjhjehjebaaDoor

/- Align of the program: the result lies in a block of its own. -/
namespace Go.Proofs.YtpabfjhjehjebaaDoor
open Go.RowKit Bs
set_option maxRecDepth 100000 in
set_option maxHeartbeats 3200000 in
theorem alignp_own (l : List Nat) (n : Int) (hv : vs l n = true) (q : Nat → Prop) (p : Option Addr) (c : Nat) (hl : By l) (w : World) (hR : Rd w q (.slice p l.length c) (l.map nv)) :
    Calls Tryd.prog 88 #[.agg #[.slice p l.length c, .int .i64 n]] w fun e w' =>
      ∃ g, e = .returned (.tuple #[.agg #[.slice (some ⟨g, 0, none⟩) l.length l.length, .int .i64 ((8 * l.length : Nat) : Int)], .int .i64 0]) ∧ Blk w' g l ∧ w.heap.size ≤ g ∧ w.grownBy w' none := by
  obtain ⟨k1, k2, k3, k4⟩ := two_boxes w #[.slice p l.length c, .int .i64 n] #[.slice none 0 0, .int .i64 0] 74 74
  have H0 := Lib.hid (And.intro k1 (And.intro k2 (And.intro k3 k4)))
  have hR1 := hR.keep k3
  clear k1 k2 k3 k4 hR
  go_enter Tryd.func88, Tryd.ntmps88
  go_wp2_with fail
  generalize (w.alloc (.cells #[.slice p l.length c, .int .i64 n] 74)).alloc (.cells #[.slice none 0 0, .int .i64 0] 74) = w1 at *
  refine (validp_any l n q p c hl _ hR1).mono ?_
  rintro e w2 ⟨rfl, hg⟩
  have hrow := kept_row H0.out.1 hg (by simp)
  have hres := kept_row H0.out.2.1 hg (by simp)
  obtain ⟨c0, c1⟩ := row_cells hrow
  obtain ⟨r0, r1⟩ := row_cells hres
  have g0 := frozen_of_row _ _ 0 _ _ hres
  have g1 := frozen_of_row _ _ 1 _ _ hres
  have HG := Lib.hid (grown_trans H0.out.2.2.1 hg)
  have HRES := Lib.hid hres
  have HROW := Lib.hid hrow
  have HSZ : Hid (w.heap.size + 2 ≤ w2.heap.size) := Lib.hid (by rw [← H0.out.2.2.2]; exact hg.size)
  have hR2 := hR1.keep hg
  clear hrow hres hg hR1 H0
  obtain ⟨N, rfl⟩ := vs_nat hv
  obtain ⟨hN, hlen⟩ := vs_bits hv
  rw [hv]
  have hB := bytesFor_any N (by omega) w2
  rw [← hlen] at hB
  have H2 := Lib.hid hB
  have hl2 : l.length ≤ 1024 := by omega
  have hTi : 8 * (l.length : Int) = ((8 * l.length : Nat) : Int) := by omega
  have C := zeros_any (8 * l.length) (by omega) w2
  unfold ZerosPost at C
  rw [show (8 * l.length + 7) / 8 = l.length by omega] at C
  obtain ⟨T, hT⟩ : ∃ T : Nat, T = 8 * l.length := ⟨_, rfl⟩
  rw [← hT] at hTi C
  have H1 := Lib.hid C
  have HT := Lib.hid hT
  have hT8 : T ≤ 8192 := by omega
  clear hv hlen C hB hT
  go_wp2_with (first | (go_at_call 99; refine H2.out.mono ?_; rintro e w' ⟨rfl, rfl⟩))
  refine H1.out.mono ?_
  rintro e w3 ⟨g, rfl, hgg, hB3, hg3⟩
  have hrow := kept_row HROW.out hg3 (by simp)
  have hres := kept_row HRES.out hg3 (by simp)
  clear c0 c1 r0 r1 g0 g1
  obtain ⟨c0, c1⟩ := row_cells hrow
  have M4 := Lib.hid (made_of (W := w) (M := l.length) (T := (T : Int)) hB3 (by have := HG.out.size; omega) (grown_trans HG.out hg3))
  have HR4 := Lib.hid ((hR2.keep hg3).keep (World.grownBy_alloc w3 (.cells #[.slice (some ⟨g, 0, none⟩) l.length l.length, .int .i64 (T : Int)] 74) none))
  have n1 : ¬ w.heap.size = w3.heap.size := by have := HSZ.out; have := hg3.size; omega
  have n2 : w.heap.size ≠ w3.heap.size := n1
  have n3 : w.heap.size < w3.heap.size := by have := HSZ.out; have := hg3.size; omega
  have hgw : w.heap.size + 2 ≤ g := by have := HSZ.out; omega
  have HRES3 := Lib.hid (kept_row hres (World.grownBy_alloc w3 (.cells #[.slice (some ⟨g, 0, none⟩) l.length l.length, .int .i64 (T : Int)] 74) none) (by simp))
  clear hB3 hrow hres H1 hR2
  go_wp2_with (refine wpList_copy_into rfl _ _ rfl g l.length l.length rfl p l.length c rfl (List.replicate l.length 0) M4.out.blk (by simp) l rfl q HR4.out (Nat.le_refl _) ?_; intro w5 hB5 hg5; rw [List.drop_of_length_le (by simp), List.append_nil] at hB5; have M5 := Lib.hid (M4.out.next hg5 hB5); have HR5 := Lib.hid (kept_row HRES3.out hg5 (by intro e; have := Option.some.inj e; omega)); obtain ⟨e0, e1⟩ := row_cells M5.out.row; obtain ⟨r0, r1⟩ := row_cells HR5.out; have g0 := frozen_of_row _ _ 0 _ _ HR5.out; have g1 := frozen_of_row _ _ 1 _ _ HR5.out; clear hB5 hg5)
  refine bodyPost_ret (res_stream_err rfl _ _ (w.heap.size + 1) _ _ rfl (store2 HR5.out)) rfl ?_
  have gr := grown_store2 w5 (w.heap.size + 1) (.slice (some ⟨g, 0, none⟩) l.length l.length) (.int .i64 (T : Int))
  exact ⟨g, by rw [← HT.out]; rfl, M5.out.blk.grown gr (by intro e; have := Option.some.inj e; omega), M5.out.lo, grown_new M5.out.gr gr (by omega)⟩
end Go.Proofs.YtpabfjhjehjebaaDoor

/- packet: Encode. -/
namespace Go.Proofs.YtpabfjhjehjebaaDoor
open Go.RowKit Bs
set_option maxRecDepth 100000 in
theorem mask_bit {b n i : Nat} (hb : b < 2 ^ 64) (hi : n ≤ i) (hbi : b.testBit i = true) (h : b &&& ((2 ^ (64 - n) - 1) * 2 ^ n) = 0) : False := by
  have hi2 : i < 64 := by
    refine Nat.lt_of_not_le fun h64 => ?_
    rw [Nat.testBit_lt_two_pow (Nat.lt_of_lt_of_le hb (Nat.pow_le_pow_right (by decide) h64))] at hbi
    cases hbi
  have e := congrArg (fun x : Nat => x.testBit i) h
  simp only [Nat.testBit_and, hbi, Nat.zero_testBit, Bool.true_and, Nat.testBit_mul_two_pow, Nat.testBit_two_pow_sub_one] at e
  simp at e
  omega
set_option maxRecDepth 100000 in
theorem vb_lt {b : Nat} {n : Int} (h : vb b n = true) (hb : U64 b) : b < 2 ^ n.toNat := by
  refine Nat.lt_of_not_le fun hge => ?_
  obtain ⟨i, hi, hbi⟩ := Nat.exists_ge_and_testBit_of_ge_two_pow hge
  have hl := vb_vl h
  unfold vb at h
  have hm := (Bool.and_eq_true _ _ ▸ h).2
  have hm := eq_of_beq hm
  rcases vl_cases hl with rfl | rfl | rfl | rfl
  · exact mask_bit hb hi hbi (by rw [full_val.1] at hm; exact hm)
  · exact mask_bit hb hi hbi (by rw [full_val.2.1] at hm; exact hm)
  · exact mask_bit hb hi hbi (by rw [full_val.2.2.1] at hm; exact hm)
  · exact mask_bit hb hi hbi (by rw [full_val.2.2.2] at hm; exact hm)
/-- While a packet is encoded. -/
structure EN (W : World) (P : Pk) (S : Nat) (B : List Bool) (p : Option Addr) (c : Nat) (w : World) : Prop where
  pb : w.heap[W.heap.size]? = some (.cells (pcells P) 31 (0, 0))
  sb : w.heap[S]? = some (.cells #[.slice p (pk B).length c, .int .i64 (B.length : Int)] 74 (0, 0))
  rd : Rd w (fun b => b ≠ S ∧ W.heap.size ≤ b) (.slice p (pk B).length c) ((pk B).map nv)
  pc : p = none → c = 0
  lo : W.heap.size < S
  gr : W.grownBy w none
section
variable {W w w1 : World} {P : Pk} {S n : Nat} {B B2 : List Bool} {p : Option Addr} {c : Nat}
set_option maxRecDepth 100000 in
theorem EN.keep (H : EN W P S B p c w) (k : w.grownBy w1 none) : EN W P S B p c w1 :=
  ⟨kept_row H.pb k (by simp), kept_row H.sb k (by simp), H.rd.keep k, H.pc, H.lo, grown_trans H.gr k⟩
set_option maxRecDepth 100000 in
theorem EN.lt (H : EN W P S B p c w) : S < w.heap.size := World.lt_of_row' H.sb
set_option maxRecDepth 100000 in
theorem EN.turn (H : EN W P S B p c w) {p2 : Option Addr} {c2 : Nat} (hn : S < n) (hR : Rd w (n ≤ ·) (.slice p2 (pk B2).length c2) ((pk B2).map nv)) (hp : p2 = none → c2 = 0) :
    EN W P S B2 p2 c2 ((w.setCell ⟨S, 0, none⟩ (.slice p2 (pk B2).length c2)).setCell ⟨S, 1, none⟩ (.int .i64 (B2.length : Int))) := by
  have k := grown_store2 w S (.slice p2 (pk B2).length c2) (.int .i64 (B2.length : Int))
  have hlo := H.lo
  exact ⟨kept_row H.pb k (fun e => by have := Option.some.inj e; omega), store2 H.sb, (hR.weaken (q' := fun b => b ≠ S ∧ W.heap.size ≤ b) fun b hb _ => ⟨by omega, by omega⟩).grown k (fun b hb e => hb.1 (Option.some.inj e)), hp, hlo, grown_new H.gr k (by omega)⟩
set_option maxRecDepth 100000 in
theorem EN.facts (H : EN W P S B p c w) : (w.cell? ⟨W.heap.size, 3, none⟩ = some (.int .i64 P.len) ∧ w.cell? ⟨W.heap.size, 8, none⟩ = some (.int .u64 (P.bits : Int)) ∧ w.cell? ⟨W.heap.size, 9, none⟩ = some (.string P.pay)) ∧ w.cell? ⟨S, 0, none⟩ = some (.slice p (pk B).length c) ∧ w.cell? ⟨S, 1, none⟩ = some (.int .i64 (B.length : Int)) ∧ w.frozen? ⟨S, 0, none⟩ = false ∧ w.frozen? ⟨S, 1, none⟩ = false :=
  ⟨⟨cell_of_row _ _ _ _ _ _ H.pb, cell_of_row _ _ _ _ _ _ H.pb, cell_of_row _ _ _ _ _ _ H.pb⟩, (row_cells H.sb).1, (row_cells H.sb).2, frozen_of_row _ _ _ _ _ H.sb, frozen_of_row _ _ _ _ _ H.sb⟩
end
/-- What Encode returns: the bytes of a valid packet lie in a block of their own. -/
def EncPost (P : Pk) (w : World) (e : Ending) (w' : World) : Prop :=
  (vpk P = true ∧ ∃ g, e = .returned (.tuple #[.slice (some ⟨g, 0, none⟩) (enc P).length (enc P).length, .int .i64 0]) ∧ Blk w' g (enc P) ∧ w.heap.size ≤ g ∧ w.grownBy w' none) ∨
  (vpk P = false ∧ e = .returned (.tuple #[.slice none 0 0, .int .i64 1]) ∧ w.grownBy w' none)
set_option maxRecDepth 100000 in
set_option maxHeartbeats 3200000 in
theorem pencode_any (P : Pk) (hP : P.Wf) (w : World) (hT : Tb w) :
    Calls Tryd.prog 69 #[P.val] w fun e w' => EncPost P w e w' := by
  have hval : P.val = .agg #[.int .i64 P.mode, .int .i64 P.sub, .int .i64 P.set, .int .i64 P.len, .int .i64 P.ttl, .int .i64 P.ent, .int .i64 P.ing, .int .i64 P.pro, .int .u64 (P.bits : Int), .string P.pay] := rfl
  rw [hval]
  go_enter Tryd.func69, Tryd.ntmps69
  go_wp2_with fail
  obtain ⟨k1, k2⟩ := one_box w (pcells P) 31
  have HP := Lib.hid (And.intro k1 k2)
  have hTa := hT.keep k2
  clear k1 k2
  unfold pcells at HP hTa
  generalize w.alloc (.cells #[.int .i64 P.mode, .int .i64 P.sub, .int .i64 P.set, .int .i64 P.len, .int .i64 P.ttl, .int .i64 P.ent, .int .i64 P.ing, .int .i64 P.pro, .int .u64 (P.bits : Int), .string P.pay] 31) = wa at *
  change Hid (wa.heap[w.heap.size]? = some (.cells (pcells P) 31 (0, 0)) ∧ w.grownBy wa none) at HP
  rw [← hval]
  refine (pvalid_any P hP _).mono ?_
  rintro e w1 ⟨rfl, hg⟩
  have HQ := Lib.hid (And.intro (kept_row HP.out.1 hg (by simp)) (grown_trans HP.out.2 hg))
  have HT1 := Lib.hid (hTa.keep hg)
  clear hg HP hTa hT
  by_cases hv : vpk P = true
  · rw [hv]
    have HV := Lib.hid hv
    clear hv
    obtain ⟨a0, a1, a2, a3, a4, a5, a6, a7, a8, a9⟩ := p_facts HQ.out.1
    go_wp2_with fail
    rw [← hval]
    refine (writeHeader_any P HV.out w1 HT1.out).mono ?_
    rintro e w3 ⟨p, c, rfl, hR, hpc, hg⟩
    obtain ⟨k1, k2⟩ := one_box w3 #[.slice p (pk (flb (fl P))).length c, .int .i64 ((flb (fl P)).length : Int)] 74
    have H3 : Hid (EN w P w3.heap.size (flb (fl P)) p c (w3.alloc (.cells #[.slice p (pk (flb (fl P))).length c, .int .i64 ((flb (fl P)).length : Int)] 74))) :=
      Lib.hid ⟨kept_row HQ.out.1 (grown_trans hg k2) (by simp), k1, (hR.weaken (q' := fun b => b ≠ w3.heap.size ∧ w.heap.size ≤ b) fun b hb hl => ⟨by omega, Nat.le_trans HQ.out.2.size hb⟩).keep k2, hpc, Nat.lt_of_lt_of_le (World.lt_of_row' HQ.out.1) hg.size, grown_trans HQ.out.2 (grown_trans hg k2)⟩
    have HL49 := Lib.hid (hdr_len P)
    have hvb := (vpk_parts HV.out).2.2.2.2.2.2.2.2
    have HLN : Hid (0 ≤ P.len ∧ P.len.toNat ≤ 64) := Lib.hid (by rcases vl_cases (vb_vl hvb) with h | h | h | h <;> rw [h] <;> decide)
    have HBL := Lib.hid (vb_lt hvb hP.bits)
    clear a0 a1 a2 a3 a4 a5 a6 a7 a8 a9 hR hpc hg k1 k2 HQ HT1 hvb
    obtain ⟨⟨a3, a8, a9⟩, _⟩ := H3.out.facts
    go_wp2_with fail
    obtain ⟨B0, hB0⟩ : ∃ B, B = flb (fl P) := ⟨_, rfl⟩
    rw [← hB0] at H3 HL49 ⊢
    obtain ⟨B1, hB1⟩ : ∃ B, B = B0 ++ nb P.bits P.len.toNat := ⟨_, rfl⟩
    have hA := append_bits (B := B0) (v := P.bits) (k := P.len.toNat) HLN.out.2 HBL.out (by have := HLN.out.2; have := HL49.out; omega) H3.out.rd
    rw [Int.toNat_of_nonneg HLN.out.1, ← hB1] at hA
    have HB0 := Lib.hid hB0
    have HB1 := Lib.hid hB1
    clear hB0 hB1 a3 a8 a9
    generalize w3.alloc (.cells #[.slice p (pk B0).length c, .int .i64 (B0.length : Int)] 74) = w4 at *
    refine hA.mono ?_
    rintro e w5 ⟨p2, c2, rfl, hR2, hp2, hg⟩
    have H5 := Lib.hid (H3.out.keep hg)
    have H6 := Lib.hid (H5.out.turn H3.out.lt hR2 hp2)
    obtain ⟨_, r0, r1, z0, z1⟩ := H5.out.facts
    clear hA hR2 hp2 hg H3 H5
    go_upto_region 5 with fail
    generalize (w5.setCell ⟨w3.heap.size, 0, none⟩ (.slice p2 (pk B1).length c2)).setCell ⟨w3.heap.size, 1, none⟩ (.int .i64 (B1.length : Int)) = w6 at *
    obtain ⟨⟨a3, a8, a9⟩, s0, s1, _⟩ := H6.out.facts
    have hcv := Lib.run_convert_string_bytes (P := Tryd.prog) w6 9 23 5 P.pay Tryd.underlying9 Tryd.underlying23 Tryd.underlying5
    have H7 := Lib.hid (H6.out.keep (bw_grown w6 5 P.pay))
    have HRB := Lib.hid (bw_rd w6 5 P.pay (grownCap w6 P.pay.size 0 5))
    have y9 := H7.out.facts.1.2.2
    have hps : P.pay.size ≤ 64 := (vpk_parts HV.out).2.2.2.2.2.2.2.1
    have HL1 : Hid (B1.length ≤ 113) := Lib.hid (by rw [HB1.out, List.length_append, nb_len]; have := HLN.out.2; have := HL49.out; omega)
    have hJ := join_bits (B := B1) (byl_by P.pay) (by rw [byl_len]; have := HL1.out; omega) H7.out.rd HRB.out
    rw [byl_len, Int.natCast_mul] at hJ
    obtain ⟨B3, hB3⟩ : ∃ B, B = B1 ++ pb (byl P.pay) := ⟨_, rfl⟩
    rw [← hB3] at hJ
    have HB3 := Lib.hid hB3
    have HJ := Lib.hid hJ
    clear r0 r1 z0 z1 hB3 hJ
    go_wp2_with fail
    clear s0 s1 hcv HRB H6 a3 a8 a9 y9
    generalize Lib.bytesWorld w6 5 P.pay = w7 at *
    refine HJ.out.mono ?_
    rintro e w8 ⟨p3, c3, rfl, hR3, hp3, hg⟩
    have H8 := Lib.hid (H7.out.keep hg)
    have H9 := Lib.hid (H8.out.turn H7.out.lt hR3 hp3)
    obtain ⟨_, r0, r1, z0, z1⟩ := H8.out.facts
    clear hR3 hp3 hg H7 H8 HJ
    go_upto_region 6 with fail
    generalize (w8.setCell ⟨w3.heap.size, 0, none⟩ (.slice p3 (pk B3).length c3)).setCell ⟨w3.heap.size, 1, none⟩ (.int .i64 (B3.length : Int)) = w9 at *
    obtain ⟨_, s0, s1, _⟩ := H9.out.facts
    have HL3 : Hid (B3.length ≤ 625) := Lib.hid (by rw [HB3.out, List.length_append, pb_len, byl_len]; have := HL1.out; omega)
    clear r0 r1 z0 z1
    go_wp2_with fail
    refine (check_bits (by have := HL3.out; omega) H9.out.rd).mono ?_
    rintro e wa2 ⟨rfl, hg⟩
    have H10 := Lib.hid (H9.out.keep hg)
    clear s0 s1 hg H9
    obtain ⟨_, s0, s1, z0, z1⟩ := H10.out.facts
    have hA2 := append_bits (B := B3) (v := ck B3) (k := 16) (by decide) (chk_lt _ _) (by have := HL3.out; omega) H10.out.rd
    obtain ⟨B4, hB4⟩ : ∃ B, B = B3 ++ nb (ck B3) 16 := ⟨_, rfl⟩
    rw [← hB4] at hA2
    have HB4 := Lib.hid hB4
    have HA2 := Lib.hid hA2
    have HL4 : Hid (B4.length ≤ 641) := Lib.hid (by rw [hB4, List.length_append, nb_len]; have := HL3.out; omega)
    clear hB4 hA2
    go_wp2_with fail
    refine HA2.out.mono ?_
    rintro e wb ⟨p4, c4, rfl, hR4, hp4, hg⟩
    have H11 := Lib.hid (H10.out.keep hg)
    have H12 := Lib.hid (H11.out.turn H10.out.lt hR4 hp4)
    clear s0 s1 z0 z1
    obtain ⟨_, r0, r1, z0, z1⟩ := H11.out.facts
    clear hR4 hp4 hg H10 H11 HA2
    go_upto_region 8 with fail
    generalize (wb.setCell ⟨w3.heap.size, 0, none⟩ (.slice p4 (pk B4).length c4)).setCell ⟨w3.heap.size, 1, none⟩ (.int .i64 (B4.length : Int)) = wd at *
    obtain ⟨_, s0, s1, _⟩ := H12.out.facts
    clear r0 r1 z0 z1
    go_wp2_with fail
    refine (alignp_own (pk B4) (B4.length : Int) (pk_vs B4 (by have := HL4.out; omega)) _ p4 c4 (pk_by B4) wd H12.out.rd).mono ?_
    rintro e we ⟨g, rfl, hB, hge, hg⟩
    have H13 := Lib.hid (H12.out.keep hg)
    have HLT : Hid (w3.heap.size < g ∧ w.heap.size ≤ g) := Lib.hid ⟨Nat.lt_of_lt_of_le H12.out.lt hge, Nat.le_trans H12.out.gr.size hge⟩
    clear s0 s1
    obtain ⟨_, r0, r1, z0, z1⟩ := H13.out.facts
    have HB5 := Lib.hid hB
    clear hB hge hg H12
    go_wp2_with fail
    have hE : enc P = pk B4 := by unfold enc body; rw [← HB0.out, ← HB1.out, ← HB3.out, ← HB4.out]
    go_ret2
    refine .inl ⟨HV.out, g, by rw [hE]; rfl, ?_, HLT.out.2, ?_⟩
    · rw [hE]; exact HB5.out.grown (grown_store2 we w3.heap.size _ _) (fun e => by have h1 := HLT.out.1; have := Option.some.inj e; omega)
    · exact grown_new H13.out.gr (grown_store2 we w3.heap.size _ _) (by have := H13.out.lo; omega)
  · have hf : vpk P = false := by simpa using hv
    have HF := Lib.hid hf
    rw [hf]
    clear hf hv
    go_wp2_with fail
    go_ret2
    exact .inr ⟨HF.out, rfl, HQ.out.2⟩
end Go.Proofs.YtpabfjhjehjebaaDoor

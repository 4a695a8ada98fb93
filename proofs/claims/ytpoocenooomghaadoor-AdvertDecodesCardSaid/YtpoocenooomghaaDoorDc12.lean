/- Parts of the proof, packed: AdRdr, AdRVa. -/
import Derived.Test.YtpoocenooomghaaDoorDc11
import Derived.Deep.RegionHeld3
import Derived.Deep.CutBlock
import Derived.Deep.CutRange
import Derived.Test.YtpoocenooomghaaDoorDc6
import Derived.BigQuiet
/- advert: the reader's advert: the fields that the bytes say. -/
namespace Go.Proofs.YtpoocenooomghaaDoor
open Go.RowKit Bs
/-- The fields of an advert are returned; the reader stands behind them. -/
def RdPost (l : List Nat) (p : Option Addr) (c S : Nat) (w : World) (e : Ending) (w' : World) : Prop :=
  ∃ A : Ad, e = .returned A.val ∧ AdIs l A ∧ AdOk w' (w.heap.size ≤ ·) A ∧ RN w S l p c (eCm l) w'
set_option maxRecDepth 100000 in
theorem fd_le (l : List Nat) (p k n : Nat) (h : 2 ^ k ≤ n) : fd l p k < n := Nat.lt_of_lt_of_le (fd_lt l p k) h
set_option maxRecDepth 100000 in
theorem shl8 {x : Nat} (h : x < 4) : (8 : Int) * 2 ^ x = ((8 * 2 ^ x : Nat) : Int) := by
  rcases (show x = 0 ∨ x = 1 ∨ x = 2 ∨ x = 3 by omega) with rfl | rfl | rfl | rfl <;> rfl
set_option maxRecDepth 100000 in
theorem ag_start {W w : World} {Z : Nat} {r q : Int} {cp : Bool} (hz : w.heap[Z]? = some (.cells #[.int .i64 0, .int .i64 0, .bool false, .slice none 0 0, .slice none 0 0] 26 (0, 0))) (h1 : W.heap.size ≤ Z) (h2 : Z < w.heap.size) :
    AG W Z w.heap.size r q cp (.slice none 0 0) (.slice none 0 0) (.slice none 0 0) (.slice none 0 0) [] [] (w.alloc (.cells #[.int .i64 r, .int .i64 q, .bool cp, .slice none 0 0, .slice none 0 0] 26)) := by
  have g := World.grownBy_alloc w (.cells #[.int .i64 r, .int .i64 q, .bool cp, .slice none 0 0, .slice none 0 0] 26) none
  exact ⟨kept_row hz g (by simp), heap_alloc_new w _, World.ownsRow_nil _ _ _ _, World.ownsRow_nil _ _ _ _, fun g hg => (by cases hg), ⟨h1, h2⟩, by simp⟩
set_option maxRecDepth 100000 in
theorem adv_size : (Tryd.prog.info? 26).map (·.size) = some 5 := by kernel_rfl
set_option maxRecDepth 100000 in
theorem res_adv {fn : Func} {p : Tmp} (h : fn.results = #[.cell p 26]) (tmps : Array Value) (w : World) (g : Nat) (x y z u v : Value) (hp : tmps.getD p undef = .pointer (some ⟨g, 0, none⟩)) (hg : w.heap[g]? = some (.cells #[x, y, z, u, v] 26 (0, 0))) :
    (results fn tmps).run Tryd.prog w = .ok (.agg #[x, y, z, u, v]) w :=
  results_cell_row h tmps w g _ _ _ _ hp hg Tryd.underlying26 rfl adv_size
set_option maxRecDepth 100000 in
theorem row5 {w : World} {b : Nat} {t : TypeId} {x0 x1 x2 x3 x4 : Value} (h : w.heap[b]? = some (.cells #[x0, x1, x2, x3, x4] t (0, 0))) :
    w.cell? ⟨b, 0, none⟩ = some x0 ∧ w.cell? ⟨b, 1, none⟩ = some x1 ∧ w.cell? ⟨b, 2, none⟩ = some x2 ∧ w.cell? ⟨b, 3, none⟩ = some x3 ∧ w.cell? ⟨b, 4, none⟩ = some x4 := by
  refine ⟨?_, ?_, ?_, ?_, ?_⟩ <;> (rw [cell_of_row _ _ _ _ _ _ h]; rfl)
set_option maxRecDepth 100000 in
theorem store5 {w : World} {b : Nat} {t : TypeId} {x0 x1 x2 x3 x4 : Value} (u0 u1 u2 u3 u4 : Value) (h : w.heap[b]? = some (.cells #[x0, x1, x2, x3, x4] t (0, 0))) :
    (((((w.setCell ⟨b, 0, none⟩ u0).setCell ⟨b, 1, none⟩ u1).setCell ⟨b, 2, none⟩ u2).setCell ⟨b, 3, none⟩ u3).setCell ⟨b, 4, none⟩ u4).heap[b]? = some (.cells #[u0, u1, u2, u3, u4] t (0, 0)) ∧
    w.grownBy (((((w.setCell ⟨b, 0, none⟩ u0).setCell ⟨b, 1, none⟩ u1).setCell ⟨b, 2, none⟩ u2).setCell ⟨b, 3, none⟩ u3).setCell ⟨b, 4, none⟩ u4) (some b) := by
  have h1 := heap_setCell_same w b 0 _ _ u0 h
  have h2 := heap_setCell_same _ b 1 _ _ u1 h1
  have h3 := heap_setCell_same _ b 2 _ _ u2 h2
  have h4 := heap_setCell_same _ b 3 _ _ u3 h3
  have h5 := heap_setCell_same _ b 4 _ _ u4 h4
  refine ⟨by rw [h5]; rfl, ?_⟩
  have g1 := grown_setCell w ⟨b, 0, none⟩ u0
  have g2 := grown_setCell (w.setCell ⟨b, 0, none⟩ u0) ⟨b, 1, none⟩ u1
  have g3 := grown_setCell ((w.setCell ⟨b, 0, none⟩ u0).setCell ⟨b, 1, none⟩ u1) ⟨b, 2, none⟩ u2
  have g4 := grown_setCell (((w.setCell ⟨b, 0, none⟩ u0).setCell ⟨b, 1, none⟩ u1).setCell ⟨b, 2, none⟩ u2) ⟨b, 3, none⟩ u3
  have g5 := grown_setCell ((((w.setCell ⟨b, 0, none⟩ u0).setCell ⟨b, 1, none⟩ u1).setCell ⟨b, 2, none⟩ u2).setCell ⟨b, 3, none⟩ u3) ⟨b, 4, none⟩ u4
  exact grown_trans (grown_trans (grown_trans (grown_trans g1 g2) g3) g4) g5
set_option maxRecDepth 100000 in
theorem ar_putL {W w : World} {Z B S c pos : Nat} {r q : Int} {cp : Bool} {uL uC vL vC : Value} {L C : List T3} {l : List Nat} {p : Option Addr} (h : AG W Z B r q cp uL uC vL vC L C w ∧ RN W S l p c pos w) :
    AG W Z B r q cp vL uC vL vC L C (w.setCell ⟨B, 3, none⟩ vL) ∧ RN W S l p c pos (w.setCell ⟨B, 3, none⟩ vL) := by
  have := h.1.lo
  exact ⟨h.1.putL, h.2.new (grown_setCell w ⟨B, 3, none⟩ vL) (by show W.heap.size ≤ B; omega)⟩
set_option maxRecDepth 100000 in
theorem ar_putC {W w : World} {Z B S c pos : Nat} {r q : Int} {cp : Bool} {uL uC vL vC : Value} {L C : List T3} {l : List Nat} {p : Option Addr} (h : AG W Z B r q cp uL uC vL vC L C w ∧ RN W S l p c pos w) :
    AG W Z B r q cp uL vC vL vC L C (w.setCell ⟨B, 4, none⟩ vC) ∧ RN W S l p c pos (w.setCell ⟨B, 4, none⟩ vC) := by
  have := h.1.lo
  exact ⟨h.1.putC, h.2.new (grown_setCell w ⟨B, 4, none⟩ vC) (by show W.heap.size ≤ B; omega)⟩
set_option maxRecDepth 100000 in
set_option maxHeartbeats 6400000 in
theorem ardr_any (l : List Nat) (hl : By l) (h1 : l.length ≤ 1024) (S : Nat) (p : Option Addr) (c : Nat) (w : World) (hR : RN w S l p c 0 w) :
    Calls Tryd.prog 50 #[.pointer (some ⟨S, 0, none⟩)] w fun e w' => RdPost l p c S w e w' := by
  obtain ⟨ir, hir, hr0, hr1, hr2⟩ := info_parts info_re
  obtain ⟨ic, hic, hc0, hc1, hc2⟩ := info_parts info_cm
  have HB := Lib.hid (And.intro hl h1)
  have kz := heap_alloc_new w (.cells #[.int .i64 0, .int .i64 0, .bool false, .slice none 0 0, .slice none 0 0] 26)
  have kg := World.grownBy_alloc w (.cells #[.int .i64 0, .int .i64 0, .bool false, .slice none 0 0, .slice none 0 0] 26) none
  have hS := hR.lt
  have H0 := Lib.hid (And.intro kz (hR.keep kg))
  have HZ : Hid (w.heap.size < (w.alloc (.cells #[.int .i64 0, .int .i64 0, .bool false, .slice none 0 0, .slice none 0 0] 26)).heap.size) := Lib.hid (by simp)
  clear kz kg hR hl h1
  go_enter Tryd.func50, Tryd.ntmps50
  go_upto_region 1 with fail
  generalize w.alloc _ = wa at *
  go_wp2_with fail
  refine (H0.out.2.take HB.out.1 HB.out.2 7 (by decide) (by omega)).mono ?_
  rintro e w1 ⟨rfl, hR, hg⟩
  have H1 := Lib.hid (And.intro (kept_row H0.out.1 hg (fun e => by have := Option.some.inj e; omega)) (And.intro hR (Nat.lt_of_lt_of_le HZ.out hg.size)))
  clear hR hg H0 HZ
  go_wp2_with fail
  refine (H1.out.2.1.take HB.out.1 HB.out.2 20 (by decide) (by omega)).mono ?_
  rintro e w2 ⟨rfl, hR, hg⟩
  have H2 := Lib.hid (And.intro (kept_row H1.out.1 hg (fun e => by have := Option.some.inj e; omega)) (And.intro hR (Nat.lt_of_lt_of_le H1.out.2.2 hg.size)))
  clear hR hg H1
  go_wp2_with fail
  refine (H2.out.2.1.take HB.out.1 HB.out.2 1 (by decide) (by omega)).mono ?_
  rintro e w3 ⟨rfl, hR, hg⟩
  have H3 := Lib.hid (And.intro (kept_row H2.out.1 hg (fun e => by have := Option.some.inj e; omega)) (And.intro hR (Nat.lt_of_lt_of_le H2.out.2.2 hg.size)))
  clear hR hg H2
  have H4 := Lib.hid (And.intro (ag_start (W := w) (r := ((fd l 0 7 : Nat) : Int)) (q := ((fd l 7 20 : Nat) : Int)) (cp := (((fd l 27 1 : Nat) : Int) == 1)) H3.out.1 (Nat.le_refl _) H3.out.2.2) (H3.out.2.1.keep (World.grownBy_alloc w3 (.cells #[.int .i64 ((fd l 0 7 : Nat) : Int), .int .i64 ((fd l 7 20 : Nat) : Int), .bool (((fd l 27 1 : Nat) : Int) == 1), .slice none 0 0, .slice none 0 0] 26) none)))
  clear H3
  go_upto_region 2 with fail
  generalize w3.alloc _ = w4 at *
  generalize w3.heap.size = B at *
  obtain ⟨r, hr⟩ : ∃ r, ((fd l 0 7 : Nat) : Int) = r := ⟨_, rfl⟩
  obtain ⟨q, hq⟩ : ∃ q, ((fd l 7 20 : Nat) : Int) = q := ⟨_, rfl⟩
  obtain ⟨cp, hcp⟩ : ∃ cp, (((fd l 27 1 : Nat) : Int) == 1) = cp := ⟨_, rfl⟩
  obtain ⟨o1, ho1⟩ : ∃ o, ((fd l 27 1 : Nat) : Int) = o := ⟨_, rfl⟩
  rw [hr, hq, hcp] at H4
  rw [hcp, hr, hq, ho1]
  have HE := Lib.hid (And.intro hr (And.intro hq hcp))
  clear hr hq hcp ho1
  go_wp2_with fail
  refine (H4.out.2.take HB.out.1 HB.out.2 5 (by decide) (by omega)).mono ?_
  rintro e w5 ⟨rfl, hR, hg⟩
  have H5 := Lib.hid (And.intro (H4.out.1.out hg hS) hR)
  clear hR hg H4
  have hn32 : fd l 28 5 < 32 := fd_lt l 28 5
  obtain ⟨n, hn⟩ : ∃ n, fd l (0 + 7 + 20 + 1) 5 = n := ⟨_, rfl⟩
  rw [hn]
  have hn31 : n ≤ 31 := by rw [show 0 + 7 + 20 + 1 = 28 from rfl] at hn; omega
  have HN := Lib.hid (show nLk l = n from hn)
  clear hn hn32
  go_upto_block 0 with fail
  go_cut [] from 14 to 28 (fun wx => ∃ vL, Hid (AG w w.heap.size B r q cp vL (.slice none 0 0) vL (.slice none 0 0) (rdL l n) [] wx ∧ RN w S l p c (33 + n * 27) wx))
  case first =>
    go_wp2_with fail
    go_loopw [14] (fun i wr => ∃ k : Nat, k ≤ n ∧ i = .int .i64 (k : Int) ∧ ∃ vL, Hid (AG w w.heap.size B r q cp vL (.slice none 0 0) vL (.slice none 0 0) (rdL l k) [] wr ∧ RN w S l p c (33 + k * 27) wr)) (fun i _ => n - (RowKit.intOf i).toNat)
    case atStart => exact ⟨0, Nat.zero_le _, rfl, _, H5⟩
    case round =>
      obtain ⟨k, hk, rfl, vL, HK⟩ := hrel
      clear H5
      by_cases hlt : k < n
      · go_upto_region 4 with fail
        have HD := Lib.hid (And.intro (HK.out.1.keep (grown_drew (grown_refl wr none))) (HK.out.2.keep (grown_drew (grown_refl wr none))))
        have hp33 : 33 + k * 27 ≤ 1000 := by omega
        clear HK
        refine region_until (S := fun w' => Hid (w'.heap[B]? = some (.cells #[.int .i64 r, .int .i64 q, .bool cp, vL, .slice none 0 0] 26 (0, 0)))) (fun j => j == 10 || j == 11 || j == 12) (by kernel_rfl) (Lib.hid HD.out.1.ab) (fun hHeld => ?_)
        refine anyU_take (i := 0) (oi := { dst := some 16, op := Op.fieldAddr 26 (Operand.tmp 3) 3, type := 0, pos := "advert.go:241", after := #[], guard := none }) (v := ?_) rfl (by kernel_rfl) (by kernel_rfl) (by kernel_rfl) (by kernel_rfl) (by kernel_rfl) (fun _ _ _ h => h) (Or.inl ⟨by rfl, ?_⟩) hHeld ?_
        rotate_left 1
        · intro u hSu
          have q0 := (cell_of_row _ _ 3 _ _ _ hSu.out)
          go_simp
          first | done | with_reducible rfl
        (try simp only [Act.put, List.setIfInBounds_toArray, List.set_cons_zero, List.set_cons_succ])
        refine anyU_take (i := 1) (oi := { dst := some 17, op := Op.load 23 (Operand.tmp 16), type := 23, pos := "advert.go:241", after := #[{ on := 0, ground := Ground.data }], guard := none }) (v := ?_) rfl (by kernel_rfl) (by kernel_rfl) (by kernel_rfl) (by kernel_rfl) (by kernel_rfl) (fun _ _ _ h => h) (Or.inl ⟨by rfl, ?_⟩) hHeld ?_
        rotate_left 1
        · intro u hSu
          have q0 := (cell_of_row _ _ 3 _ _ _ hSu.out)
          go_simp
          first | done | with_reducible rfl
        (try simp only [Act.put, List.setIfInBounds_toArray, List.set_cons_zero, List.set_cons_succ])
        refine anyU_take (i := 2) (oi := { dst := some 18, op := Op.move (Operand.tmp 0), type := 112, pos := "advert.go:241", after := #[], guard := none }) (v := ?_) rfl (by kernel_rfl) (by kernel_rfl) (by kernel_rfl) (by kernel_rfl) (by kernel_rfl) (fun _ _ _ h => h) (Or.inl ⟨by rfl, ?_⟩) hHeld ?_
        rotate_left 1
        · intro u hSu
          have q0 := (cell_of_row _ _ 3 _ _ _ hSu.out)
          go_simp
          first | done | with_reducible rfl
        (try simp only [Act.put, List.setIfInBounds_toArray, List.set_cons_zero, List.set_cons_succ])
        refine anyU_take (i := 4) (oi := { dst := some 20, op := Op.move (Operand.tmp 0), type := 112, pos := "advert.go:241", after := #[], guard := none }) (v := ?_) rfl (by kernel_rfl) (by kernel_rfl) (by kernel_rfl) (by kernel_rfl) (by kernel_rfl) (fun _ _ _ h => h) (Or.inl ⟨by rfl, ?_⟩) hHeld ?_
        rotate_left 1
        · intro u hSu
          have q0 := (cell_of_row _ _ 3 _ _ _ hSu.out)
          go_simp
          first | done | with_reducible rfl
        (try simp only [Act.put, List.setIfInBounds_toArray, List.set_cons_zero, List.set_cons_succ])
        refine anyU_take (i := 6) (oi := { dst := some 22, op := Op.move (Operand.tmp 0), type := 112, pos := "advert.go:241", after := #[], guard := none }) (v := ?_) rfl (by kernel_rfl) (by kernel_rfl) (by kernel_rfl) (by kernel_rfl) (by kernel_rfl) (fun _ _ _ h => h) (Or.inl ⟨by rfl, ?_⟩) hHeld ?_
        rotate_left 1
        · intro u hSu
          have q0 := (cell_of_row _ _ 3 _ _ _ hSu.out)
          go_simp
          first | done | with_reducible rfl
        (try simp only [Act.put, List.setIfInBounds_toArray, List.set_cons_zero, List.set_cons_succ])
        refine anyU_ready (rs := [3]) (by kernel_rfl) (by simp) ?_
        refine EachU.cons (o := { dst := some 19, op := Op.call { callee := Callee.value (Operand.func 52), args := #[Operand.tmp 18, Operand.const (Value.int IntKind.i64 7)], argTypes := #[112, 3] }, type := 3, pos := "advert.go:241", after := #[{ on := 2, ground := Ground.data }], guard := none }) rfl (fun Kz hK => ?_) EachU.nil
        go_simp
        go_at_call 52
        refine (HD.out.2.take HB.out.1 HB.out.2 7 (by decide) (by omega)).mono ?_
        rintro e w5 ⟨rfl, hR, hg⟩
        have HDn := Lib.hid (And.intro (HD.out.1.out hg hR.lt) hR)
        clear hR hg HD
        have HD := HDn
        clear HDn
        refine hK.out _ _ (fun _ => Lib.hid HD.out.1.ab) (fun hH2 => ?_)
        clear hK Kz hHeld
        have hHeld := hH2 rfl
        clear hH2
        (try simp only [Act.put, List.setIfInBounds_toArray, List.set_cons_zero, List.set_cons_succ])
        refine anyU_ready (rs := [5]) (by kernel_rfl) (by simp) ?_
        refine EachU.cons (o := { dst := some 21, op := Op.call { callee := Callee.value (Operand.func 52), args := #[Operand.tmp 20, Operand.const (Value.int IntKind.i64 10)], argTypes := #[112, 3] }, type := 3, pos := "advert.go:241", after := #[{ on := 4, ground := Ground.data }, { on := 3, ground := Ground.chain }], guard := none }) rfl (fun Kz hK => ?_) EachU.nil
        go_simp
        go_at_call 52
        refine (HD.out.2.take HB.out.1 HB.out.2 10 (by decide) (by omega)).mono ?_
        rintro e w5 ⟨rfl, hR, hg⟩
        have HDn := Lib.hid (And.intro (HD.out.1.out hg hR.lt) hR)
        clear hR hg HD
        have HD := HDn
        clear HDn
        refine hK.out _ _ (fun _ => Lib.hid HD.out.1.ab) (fun hH2 => ?_)
        clear hK Kz hHeld
        have hHeld := hH2 rfl
        clear hH2
        (try simp only [Act.put, List.setIfInBounds_toArray, List.set_cons_zero, List.set_cons_succ])
        refine anyU_ready (rs := [7]) (by kernel_rfl) (by simp) ?_
        refine EachU.cons (o := { dst := some 23, op := Op.call { callee := Callee.value (Operand.func 52), args := #[Operand.tmp 22, Operand.const (Value.int IntKind.i64 10)], argTypes := #[112, 3] }, type := 3, pos := "advert.go:241", after := #[{ on := 6, ground := Ground.data }, { on := 5, ground := Ground.chain }], guard := none }) rfl (fun Kz hK => ?_) EachU.nil
        go_simp
        go_at_call 52
        refine (HD.out.2.take HB.out.1 HB.out.2 10 (by decide) (by omega)).mono ?_
        rintro e w5 ⟨rfl, hR, hg⟩
        have HDn := Lib.hid (And.intro (HD.out.1.out hg hR.lt) hR)
        clear hR hg HD
        have HD := HDn
        clear HDn
        refine hK.out _ _ (fun _ => Lib.hid HD.out.1.ab) (fun hH2 => ?_)
        clear hK Kz hHeld
        have hHeld := hH2 rfl
        clear hH2
        (try simp only [Act.put, List.setIfInBounds_toArray, List.set_cons_zero, List.set_cons_succ])
        refine anyU_take (i := 8) (oi := { dst := some 24, op := Op.build 70 #[(0, Operand.tmp 19), (1, Operand.tmp 21), (2, Operand.tmp 23)], type := 70, pos := "advert.go:241", after := #[{ on := 3, ground := Ground.data }, { on := 5, ground := Ground.data }, { on := 7, ground := Ground.data }], guard := none }) (v := ?_) rfl (by kernel_rfl) (by kernel_rfl) (by kernel_rfl) (by kernel_rfl) (by kernel_rfl) (fun _ _ _ h => h) (Or.inl ⟨by rfl, ?_⟩) hHeld ?_
        rotate_left 1
        · intro u hSu
          have q0 := (cell_of_row _ _ 3 _ _ _ hSu.out)
          go_simp
          first | done | with_reducible rfl
        (try simp only [Act.put, List.setIfInBounds_toArray, List.set_cons_zero, List.set_cons_succ])
        refine anyU_ready (rs := [9]) (by kernel_rfl) (by simp) ?_
        refine EachU.cons (o := { dst := some 25, op := Op.buildSlice 23 1 #[(0, Operand.tmp 24)], type := 23, pos := "advert.go:241", after := #[{ on := 8, ground := Ground.data }], guard := none }) rfl (fun Kz hK => ?_) EachU.nil
        go_simp
        have HDn := Lib.hid (And.intro (HD.out.1.keep (World.grownBy_alloc _ (.cells #[.int .i64 ((fd l (33 + k * 27) 7 : Nat) : Int), .int .i64 ((fd l (33 + k * 27 + 7) 10 : Nat) : Int), .int .i64 ((fd l (33 + k * 27 + 7 + 10) 10 : Nat) : Int)] 70) none)) (HD.out.2.keep (World.grownBy_alloc _ (.cells #[.int .i64 ((fd l (33 + k * 27) 7 : Nat) : Int), .int .i64 ((fd l (33 + k * 27 + 7) 10 : Nat) : Int), .int .i64 ((fd l (33 + k * 27 + 7 + 10) 10 : Nat) : Int)] 70) none)))
        clear HD
        have HD := HDn
        clear HDn
        refine hK.out _ _ (fun _ => Lib.hid HD.out.1.ab) (fun hH2 => ?_)
        clear hK Kz hHeld
        have hHeld := hH2 rfl
        clear hH2
        (try simp only [Act.put, List.setIfInBounds_toArray, List.set_cons_zero, List.set_cons_succ])
        refine anyU_ready (rs := [10]) (by kernel_rfl) (by simp) ?_
        refine EachU.cons (o := { dst := some 26, op := Op.call { callee := Callee.builtin Builtin.append, args := #[Operand.tmp 17, Operand.tmp 25], argTypes := #[23, 23] }, type := 23, pos := "advert.go:241", after := #[{ on := 1, ground := Ground.data }, { on := 9, ground := Ground.data }, { on := 7, ground := Ground.chain }], guard := none }) rfl (fun Kz hK => ?_) EachU.nil
        refine (astep_app t3C 3 24 (by decide) (fun _ => rfl) t3_one 70 23 ir _ Tryd.underlying23 hir hr0 hr1 hr2 rfl (by decide) (by rfl) _ _ (by rfl) (B + 1) vL (rdL l k) (by rfl) HD.out.1.oL (some ⟨_, 0, none⟩) 1 1 [⟨((fd l (33 + k * 27) 7 : Nat) : Int), ((fd l (33 + k * 27 + 7) 10 : Nat) : Int), ((fd l (33 + k * 27 + 7 + 10) 10 : Nat) : Int)⟩] (by rfl) rfl (by simp) (fun _ => True) (rdf_one _ trivial (cells3 _ _ _ _ _) 1) (by omega) (by rw [rdL_len]; simp; omega) (by have := HD.out.1.sz; omega) ?_)
        intro p4 c4 w8 hown hg hat
        have HD5 := Lib.hid (And.intro (HD.out.1.addL (M := rdL l k ++ [⟨((fd l (33 + k * 27) 7 : Nat) : Int), ((fd l (33 + k * 27 + 7) 10 : Nat) : Int), ((fd l (33 + k * 27 + 7 + 10) 10 : Nat) : Int)⟩]) hown hg hat) (HD.out.2.row hg (fun b hb => by have := HD.out.1.geL b hb; have := HD.out.1.lo; omega)))
        rw [← (show rdL l (k + 1) = rdL l k ++ [⟨((fd l (33 + k * 27) 7 : Nat) : Int), ((fd l (33 + k * 27 + 7) 10 : Nat) : Int), ((fd l (33 + k * 27 + 7 + 10) 10 : Nat) : Int)⟩] by rw [rdL_succ])] at HD5
        obtain ⟨c90, c91, c92, c93, c94⟩ := HD5.out.1.cells
        have fB := frozen_of_row _ _ 3 _ _ HD5.out.1.ab
        clear hown hg hat HD
        refine hK.out _ _ (fun h => by cases h) (fun _ => ?_)
        clear hK Kz
        (try simp only [Act.put, List.setIfInBounds_toArray, List.set_cons_zero, List.set_cons_succ])
        refine anyU_ready (rs := [11]) (by kernel_rfl) (by simp) ?_
        refine EachU.cons (o := { dst := some 27, op := Op.fieldAddr 26 (Operand.tmp 3) 3, type := 0, pos := "advert.go:241", after := #[{ on := 0, ground := Ground.phase }, { on := 1, ground := Ground.phase }, { on := 2, ground := Ground.phase }, { on := 3, ground := Ground.phase }, { on := 4, ground := Ground.phase }, { on := 5, ground := Ground.phase }, { on := 6, ground := Ground.phase }, { on := 7, ground := Ground.phase }, { on := 8, ground := Ground.phase }, { on := 9, ground := Ground.phase }, { on := 10, ground := Ground.phase }], guard := none }) rfl (fun Kz hK => ?_) EachU.nil
        go_simp
        refine hK.out _ _ (fun h => by cases h) (fun _ => ?_)
        clear hK Kz
        (try simp only [Act.put, List.setIfInBounds_toArray, List.set_cons_zero, List.set_cons_succ])
        refine anyU_ready (rs := [12]) (by kernel_rfl) (by simp) ?_
        refine EachU.cons (o := { dst := none, op := Op.store 23 (Operand.tmp 27) (Operand.tmp 26), type := 0, pos := "advert.go:241", after := #[{ on := 11, ground := Ground.data }, { on := 10, ground := Ground.data }, { on := 10, ground := Ground.chain }, { on := 0, ground := Ground.phase }, { on := 1, ground := Ground.phase }, { on := 2, ground := Ground.phase }, { on := 3, ground := Ground.phase }, { on := 4, ground := Ground.phase }, { on := 5, ground := Ground.phase }, { on := 6, ground := Ground.phase }, { on := 7, ground := Ground.phase }, { on := 8, ground := Ground.phase }, { on := 9, ground := Ground.phase }, { on := 10, ground := Ground.phase }], guard := none }) rfl (fun Kz hK => ?_) EachU.nil
        go_simp
        refine hK.out _ _ (fun h => by cases h) (fun _ => ?_)
        clear hK Kz
        (try simp only [Act.put, List.setIfInBounds_toArray, List.set_cons_zero, List.set_cons_succ])
        refine anyU_done (by kernel_rfl) ?_ _
        have HN := Lib.hid (ar_putL HD5.out)
        clear HD5 hHeld c90 c91 c92 c93 c94 fB
        go_wp2_with fail
        exact ⟨⟨k + 1, by omega, congrArg _ (by omega), _, by rw [show 33 + (k + 1) * 27 = 33 + k * 27 + 7 + 10 + 10 by omega]; exact HN⟩, by simp only [RowKit.intOf]; omega⟩
      · obtain rfl : k = n := by omega
        go_wp2_with fail
        go_meet
        exact ⟨vL, HK⟩
  case rest =>
  obtain ⟨vL, HK⟩ := hcut
  clear H5
  go_wp2_with fail
  refine (HK.out.2.take HB.out.1 HB.out.2 4 (by decide) (by omega)).mono ?_
  rintro e w7 ⟨rfl, hR, hg⟩
  have H7 := Lib.hid (And.intro (HK.out.1.out hg hS) hR)
  clear hR hg HK
  have hm16 : fd l (33 + n * 27) 4 < 16 := fd_lt l _ 4
  obtain ⟨m, hm⟩ : ∃ m, fd l (33 + n * 27) 4 = m := ⟨_, rfl⟩
  rw [hm]
  have hm15 : m ≤ 15 := by omega
  have HM := Lib.hid (show nCm l = m by unfold nCm aCm; rw [HN.out]; exact hm)
  clear hm hm16
  obtain ⟨P, hP⟩ : ∃ P, 33 + n * 27 + 4 = P := ⟨_, rfl⟩
  have hP2 : P ≤ 900 := by omega
  have HP := Lib.hid (show aCm l + 4 = P by unfold aCm; rw [HN.out]; exact hP)
  rw [hP] at H7
  clear hP
  go_upto_block 2 with fail
  go_cut [] from 31 to 46 (fun wx => ∃ vC, Hid (AG w w.heap.size B r q cp vL vC vL vC (rdL l n) (rdC l P m) wx ∧ RN w S l p c (P + m * 14) wx))
  case first =>
    go_wp2_with fail
    go_loopw [31] (fun i wr => ∃ k : Nat, k ≤ m ∧ i = .int .i64 (k : Int) ∧ ∃ vC, Hid (AG w w.heap.size B r q cp vL vC vL vC (rdL l n) (rdC l P k) wr ∧ RN w S l p c (P + k * 14) wr)) (fun i _ => m - (RowKit.intOf i).toNat)
    case atStart => exact ⟨0, Nat.zero_le _, rfl, _, by rw [Nat.zero_mul]; exact H7⟩
    case round =>
      obtain ⟨k, hk, rfl, vC, HK⟩ := hrel
      clear H7
      by_cases hlt : k < m
      · go_upto_region 8 with fail
        have HD := Lib.hid (And.intro (HK.out.1.keep (grown_drew (grown_refl wr none))) (HK.out.2.keep (grown_drew (grown_refl wr none))))
        have hp33 : P + k * 14 ≤ 2000 := by omega
        obtain ⟨X, hX⟩ : ∃ X : Int, X = ((8 * 2 ^ fd l (P + k * 14 + 3 + 9) 2 : Nat) : Int) := ⟨_, rfl⟩
        have HX := Lib.hid hX
        clear hX
        clear HK
        refine region_until (S := fun w' => Hid (w'.heap[B]? = some (.cells #[.int .i64 r, .int .i64 q, .bool cp, vL, vC] 26 (0, 0)))) (fun j => j == 11 || j == 12 || j == 13) (by kernel_rfl) (Lib.hid HD.out.1.ab) (fun hHeld => ?_)
        refine anyU_take (i := 0) (oi := { dst := some 33, op := Op.fieldAddr 26 (Operand.tmp 3) 4, type := 0, pos := "advert.go:244", after := #[], guard := none }) (v := ?_) rfl (by kernel_rfl) (by kernel_rfl) (by kernel_rfl) (by kernel_rfl) (by kernel_rfl) (fun _ _ _ h => h) (Or.inl ⟨by rfl, ?_⟩) hHeld ?_
        rotate_left 1
        · intro u hSu
          have q0 := (cell_of_row _ _ 4 _ _ _ hSu.out)
          go_simp
          first | done | with_reducible rfl
        (try simp only [Act.put, List.setIfInBounds_toArray, List.set_cons_zero, List.set_cons_succ])
        refine anyU_take (i := 1) (oi := { dst := some 34, op := Op.load 24 (Operand.tmp 33), type := 24, pos := "advert.go:244", after := #[{ on := 0, ground := Ground.data }], guard := none }) (v := ?_) rfl (by kernel_rfl) (by kernel_rfl) (by kernel_rfl) (by kernel_rfl) (by kernel_rfl) (fun _ _ _ h => h) (Or.inl ⟨by rfl, ?_⟩) hHeld ?_
        rotate_left 1
        · intro u hSu
          have q0 := (cell_of_row _ _ 4 _ _ _ hSu.out)
          go_simp
          first | done | with_reducible rfl
        (try simp only [Act.put, List.setIfInBounds_toArray, List.set_cons_zero, List.set_cons_succ])
        refine anyU_take (i := 2) (oi := { dst := some 35, op := Op.move (Operand.tmp 0), type := 112, pos := "advert.go:244", after := #[], guard := none }) (v := ?_) rfl (by kernel_rfl) (by kernel_rfl) (by kernel_rfl) (by kernel_rfl) (by kernel_rfl) (fun _ _ _ h => h) (Or.inl ⟨by rfl, ?_⟩) hHeld ?_
        rotate_left 1
        · intro u hSu
          have q0 := (cell_of_row _ _ 4 _ _ _ hSu.out)
          go_simp
          first | done | with_reducible rfl
        (try simp only [Act.put, List.setIfInBounds_toArray, List.set_cons_zero, List.set_cons_succ])
        refine anyU_take (i := 4) (oi := { dst := some 37, op := Op.move (Operand.tmp 0), type := 112, pos := "advert.go:244", after := #[], guard := none }) (v := ?_) rfl (by kernel_rfl) (by kernel_rfl) (by kernel_rfl) (by kernel_rfl) (by kernel_rfl) (fun _ _ _ h => h) (Or.inl ⟨by rfl, ?_⟩) hHeld ?_
        rotate_left 1
        · intro u hSu
          have q0 := (cell_of_row _ _ 4 _ _ _ hSu.out)
          go_simp
          first | done | with_reducible rfl
        (try simp only [Act.put, List.setIfInBounds_toArray, List.set_cons_zero, List.set_cons_succ])
        refine anyU_take (i := 6) (oi := { dst := some 39, op := Op.move (Operand.tmp 0), type := 112, pos := "advert.go:244", after := #[], guard := none }) (v := ?_) rfl (by kernel_rfl) (by kernel_rfl) (by kernel_rfl) (by kernel_rfl) (by kernel_rfl) (fun _ _ _ h => h) (Or.inl ⟨by rfl, ?_⟩) hHeld ?_
        rotate_left 1
        · intro u hSu
          have q0 := (cell_of_row _ _ 4 _ _ _ hSu.out)
          go_simp
          first | done | with_reducible rfl
        (try simp only [Act.put, List.setIfInBounds_toArray, List.set_cons_zero, List.set_cons_succ])
        refine anyU_ready (rs := [3]) (by kernel_rfl) (by simp) ?_
        refine EachU.cons (o := { dst := some 36, op := Op.call { callee := Callee.value (Operand.func 52), args := #[Operand.tmp 35, Operand.const (Value.int IntKind.i64 3)], argTypes := #[112, 3] }, type := 3, pos := "advert.go:244", after := #[{ on := 2, ground := Ground.data }], guard := none }) rfl (fun Kz hK => ?_) EachU.nil
        go_simp
        go_at_call 52
        refine (HD.out.2.take HB.out.1 HB.out.2 3 (by decide) (by omega)).mono ?_
        rintro e w5 ⟨rfl, hR, hg⟩
        have HDn := Lib.hid (And.intro (HD.out.1.out hg hR.lt) hR)
        clear hR hg HD
        have HD := HDn
        clear HDn
        refine hK.out _ _ (fun _ => Lib.hid HD.out.1.ab) (fun hH2 => ?_)
        clear hK Kz hHeld
        have hHeld := hH2 rfl
        clear hH2
        (try simp only [Act.put, List.setIfInBounds_toArray, List.set_cons_zero, List.set_cons_succ])
        refine anyU_ready (rs := [5]) (by kernel_rfl) (by simp) ?_
        refine EachU.cons (o := { dst := some 38, op := Op.call { callee := Callee.value (Operand.func 52), args := #[Operand.tmp 37, Operand.const (Value.int IntKind.i64 9)], argTypes := #[112, 3] }, type := 3, pos := "advert.go:244", after := #[{ on := 4, ground := Ground.data }, { on := 3, ground := Ground.chain }], guard := none }) rfl (fun Kz hK => ?_) EachU.nil
        go_simp
        go_at_call 52
        refine (HD.out.2.take HB.out.1 HB.out.2 9 (by decide) (by omega)).mono ?_
        rintro e w5 ⟨rfl, hR, hg⟩
        have HDn := Lib.hid (And.intro (HD.out.1.out hg hR.lt) hR)
        clear hR hg HD
        have HD := HDn
        clear HDn
        refine hK.out _ _ (fun _ => Lib.hid HD.out.1.ab) (fun hH2 => ?_)
        clear hK Kz hHeld
        have hHeld := hH2 rfl
        clear hH2
        (try simp only [Act.put, List.setIfInBounds_toArray, List.set_cons_zero, List.set_cons_succ])
        refine anyU_ready (rs := [7]) (by kernel_rfl) (by simp) ?_
        refine EachU.cons (o := { dst := some 40, op := Op.call { callee := Callee.value (Operand.func 52), args := #[Operand.tmp 39, Operand.const (Value.int IntKind.i64 2)], argTypes := #[112, 3] }, type := 3, pos := "advert.go:244", after := #[{ on := 6, ground := Ground.data }, { on := 5, ground := Ground.chain }], guard := none }) rfl (fun Kz hK => ?_) EachU.nil
        go_simp
        go_at_call 52
        refine (HD.out.2.take HB.out.1 HB.out.2 2 (by decide) (by omega)).mono ?_
        rintro e w5 ⟨rfl, hR, hg⟩
        have HDn := Lib.hid (And.intro (HD.out.1.out hg hR.lt) hR)
        clear hR hg HD
        have HD := HDn
        clear HDn
        refine hK.out _ _ (fun _ => Lib.hid HD.out.1.ab) (fun hH2 => ?_)
        clear hK Kz hHeld
        have hHeld := hH2 rfl
        clear hH2
        (try simp only [Act.put, List.setIfInBounds_toArray, List.set_cons_zero, List.set_cons_succ])
        refine anyU_take (i := 8) (oi := { dst := some 41, op := Op.binOp BinOp.shl 3 (Operand.const (Value.int IntKind.i64 8)) (Operand.tmp 40) 3, type := 3, pos := "advert.go:244", after := #[{ on := 7, ground := Ground.data }], guard := none }) (v := .int .i64 X) rfl (by kernel_rfl) (by kernel_rfl) (by kernel_rfl) (by kernel_rfl) (by kernel_rfl) (fun _ _ _ h => h) (Or.inl ⟨by rfl, ?_⟩) hHeld ?_
        · intro u hSu
          have q0 := (cell_of_row _ _ 4 _ _ _ hSu.out)
          clear q0 hSu
          rw [HX.out]
          have hx4 : fd l (P + k * 14 + 3 + 9) 2 < 4 := fd_lt l _ 2
          generalize fd l (P + k * 14 + 3 + 9) 2 = x at hx4 ⊢
          rcases (show x = 0 ∨ x = 1 ∨ x = 2 ∨ x = 3 by omega) with rfl | rfl | rfl | rfl <;> (go_simp; rfl)
        (try simp only [Act.put, List.setIfInBounds_toArray, List.set_cons_zero, List.set_cons_succ])
        refine anyU_take (i := 9) (oi := { dst := some 42, op := Op.build 73 #[(0, Operand.tmp 36), (1, Operand.tmp 38), (2, Operand.tmp 41)], type := 73, pos := "advert.go:244", after := #[{ on := 3, ground := Ground.data }, { on := 5, ground := Ground.data }, { on := 8, ground := Ground.data }], guard := none }) (v := ?_) rfl (by kernel_rfl) (by kernel_rfl) (by kernel_rfl) (by kernel_rfl) (by kernel_rfl) (fun _ _ _ h => h) (Or.inl ⟨by rfl, ?_⟩) hHeld ?_
        rotate_left 1
        · intro u hSu
          have q0 := (cell_of_row _ _ 4 _ _ _ hSu.out)
          go_simp
          first | done | with_reducible rfl
        (try simp only [Act.put, List.setIfInBounds_toArray, List.set_cons_zero, List.set_cons_succ])
        refine anyU_ready (rs := [10]) (by kernel_rfl) (by simp) ?_
        refine EachU.cons (o := { dst := some 43, op := Op.buildSlice 24 1 #[(0, Operand.tmp 42)], type := 24, pos := "advert.go:244", after := #[{ on := 9, ground := Ground.data }], guard := none }) rfl (fun Kz hK => ?_) EachU.nil
        go_simp
        have HDn := Lib.hid (And.intro (HD.out.1.keep (World.grownBy_alloc _ (.cells #[.int .i64 ((fd l (P + k * 14) 3 : Nat) : Int), .int .i64 ((fd l (P + k * 14 + 3) 9 : Nat) : Int), .int .i64 X] 73) none)) (HD.out.2.keep (World.grownBy_alloc _ (.cells #[.int .i64 ((fd l (P + k * 14) 3 : Nat) : Int), .int .i64 ((fd l (P + k * 14 + 3) 9 : Nat) : Int), .int .i64 X] 73) none)))
        clear HD
        have HD := HDn
        clear HDn
        refine hK.out _ _ (fun _ => Lib.hid HD.out.1.ab) (fun hH2 => ?_)
        clear hK Kz hHeld
        have hHeld := hH2 rfl
        clear hH2
        (try simp only [Act.put, List.setIfInBounds_toArray, List.set_cons_zero, List.set_cons_succ])
        refine anyU_ready (rs := [11]) (by kernel_rfl) (by simp) ?_
        refine EachU.cons (o := { dst := some 44, op := Op.call { callee := Callee.builtin Builtin.append, args := #[Operand.tmp 34, Operand.tmp 43], argTypes := #[24, 24] }, type := 24, pos := "advert.go:244", after := #[{ on := 1, ground := Ground.data }, { on := 10, ground := Ground.data }, { on := 7, ground := Ground.chain }], guard := none }) rfl (fun Kz hK => ?_) EachU.nil
        refine (astep_app t3C 3 24 (by decide) (fun _ => rfl) t3_one 73 24 ic _ Tryd.underlying24 hic hc0 hc1 hc2 rfl (by decide) (by rfl) _ _ (by rfl) (B + 1) vC (rdC l P k) (by rfl) HD.out.1.oC (some ⟨_, 0, none⟩) 1 1 [⟨((fd l (P + k * 14) 3 : Nat) : Int), ((fd l (P + k * 14 + 3) 9 : Nat) : Int), X⟩] (by rfl) rfl (by simp) (fun _ => True) (rdf_one _ trivial (cells3 _ _ _ _ _) 1) (by omega) (by rw [rdC_len]; simp; omega) (by have := HD.out.1.sz; omega) ?_)
        intro p4 c4 w8 hown hg hat
        have HD5 := Lib.hid (And.intro (HD.out.1.addC (M := rdC l P k ++ [⟨((fd l (P + k * 14) 3 : Nat) : Int), ((fd l (P + k * 14 + 3) 9 : Nat) : Int), X⟩]) hown hg hat) (HD.out.2.row hg (fun b hb => by have := HD.out.1.geC b hb; have := HD.out.1.lo; omega)))
        rw [← (show rdC l P (k + 1) = rdC l P k ++ [⟨((fd l (P + k * 14) 3 : Nat) : Int), ((fd l (P + k * 14 + 3) 9 : Nat) : Int), X⟩] by rw [rdC_succ, HX.out])] at HD5
        obtain ⟨c90, c91, c92, c93, c94⟩ := HD5.out.1.cells
        have fB := frozen_of_row _ _ 4 _ _ HD5.out.1.ab
        clear hown hg hat HD
        refine hK.out _ _ (fun h => by cases h) (fun _ => ?_)
        clear hK Kz
        (try simp only [Act.put, List.setIfInBounds_toArray, List.set_cons_zero, List.set_cons_succ])
        refine anyU_ready (rs := [12]) (by kernel_rfl) (by simp) ?_
        refine EachU.cons (o := { dst := some 45, op := Op.fieldAddr 26 (Operand.tmp 3) 4, type := 0, pos := "advert.go:244", after := #[{ on := 0, ground := Ground.phase }, { on := 1, ground := Ground.phase }, { on := 2, ground := Ground.phase }, { on := 3, ground := Ground.phase }, { on := 4, ground := Ground.phase }, { on := 5, ground := Ground.phase }, { on := 6, ground := Ground.phase }, { on := 7, ground := Ground.phase }, { on := 8, ground := Ground.phase }, { on := 9, ground := Ground.phase }, { on := 10, ground := Ground.phase }, { on := 11, ground := Ground.phase }], guard := none }) rfl (fun Kz hK => ?_) EachU.nil
        go_simp
        refine hK.out _ _ (fun h => by cases h) (fun _ => ?_)
        clear hK Kz
        (try simp only [Act.put, List.setIfInBounds_toArray, List.set_cons_zero, List.set_cons_succ])
        refine anyU_ready (rs := [13]) (by kernel_rfl) (by simp) ?_
        refine EachU.cons (o := { dst := none, op := Op.store 24 (Operand.tmp 45) (Operand.tmp 44), type := 0, pos := "advert.go:244", after := #[{ on := 12, ground := Ground.data }, { on := 11, ground := Ground.data }, { on := 11, ground := Ground.chain }, { on := 0, ground := Ground.phase }, { on := 1, ground := Ground.phase }, { on := 2, ground := Ground.phase }, { on := 3, ground := Ground.phase }, { on := 4, ground := Ground.phase }, { on := 5, ground := Ground.phase }, { on := 6, ground := Ground.phase }, { on := 7, ground := Ground.phase }, { on := 8, ground := Ground.phase }, { on := 9, ground := Ground.phase }, { on := 10, ground := Ground.phase }, { on := 11, ground := Ground.phase }], guard := none }) rfl (fun Kz hK => ?_) EachU.nil
        go_simp
        refine hK.out _ _ (fun h => by cases h) (fun _ => ?_)
        clear hK Kz
        (try simp only [Act.put, List.setIfInBounds_toArray, List.set_cons_zero, List.set_cons_succ])
        refine anyU_done (by kernel_rfl) ?_ _
        have HN := Lib.hid (ar_putC HD5.out)
        clear HD5 hHeld c90 c91 c92 c93 c94 fB
        go_wp2_with fail
        exact ⟨⟨k + 1, by omega, congrArg _ (by omega), _, by rw [show P + (k + 1) * 14 = P + k * 14 + 3 + 9 + 2 by omega]; exact HN⟩, by simp only [RowKit.intOf]; omega⟩
      · obtain rfl : k = m := by omega
        go_wp2_with fail
        go_meet
        exact ⟨vC, HK⟩
  case rest =>
  obtain ⟨vC, HK⟩ := hcut
  clear H7
  obtain ⟨pL, cL, rfl, -, -⟩ := own_shape HK.out.1.oL
  obtain ⟨pC, cC, rfl, -, -⟩ := own_shape HK.out.1.oC
  have HO := Lib.hid (HK.out.1.ok rfl rfl)
  obtain ⟨c0, c1, c2, c3, c4⟩ := HK.out.1.cells
  obtain ⟨d0, d1, d2, d3, d4⟩ := row5 HK.out.1.zb
  have hlo := HK.out.1.lo
  have f0 := frozen_of_row _ _ 0 _ _ HK.out.1.zb
  have f1 := frozen_of_row _ _ 1 _ _ HK.out.1.zb
  have f2 := frozen_of_row _ _ 2 _ _ HK.out.1.zb
  have f3 := frozen_of_row _ _ 3 _ _ HK.out.1.zb
  have f4 := frozen_of_row _ _ 4 _ _ HK.out.1.zb
  obtain ⟨t1, t2⟩ := store5 (.int .i64 r) (.int .i64 q) (.bool cp) (.slice pL (rdL l n).length cL) (.slice pC (rdC l P m).length cC) HK.out.1.zb
  have HT := Lib.hid (And.intro t1 (And.intro (HO.out.grown t2 (fun b hb e => by have := Option.some.inj e; omega)) (HK.out.2.new t2 (Nat.le_refl _))))
  clear t1 t2 HK HO
  go_wp2_with fail
  refine bodyPost_ret (res_adv rfl _ _ w.heap.size _ _ _ _ _ rfl HT.out.1) rfl ?_
  refine ⟨⟨r, q, cp, rdL l n, rdC l P m, pL, cL, pC, cC⟩, rfl, ⟨HE.out.1.symm, HE.out.2.1.symm, ?_, ?_, ?_⟩, HT.out.2.1.mono (fun b hb => by omega), ?_⟩
  · have h := HE.out.2.2
    show cp = _
    rw [← h]
    rcases (show fd l 27 1 = 0 ∨ fd l 27 1 = 1 by have := fd_lt l 27 1; omega) with e | e <;> rw [e] <;> rfl
  · show rdL l n = _
    rw [HN.out]
  · show rdC l P m = _
    rw [HM.out, HP.out]
  · have h := HT.out.2.2
    unfold eCm
    rw [HM.out, HP.out]
    exact h
end Go.Proofs.YtpoocenooomghaaDoor

/- The reference: when the claims of an advert are valid, and when an advert is. -/
namespace Go.Proofs.YtpoocenooomghaaDoor
open Go.RowKit Bs
set_option maxRecDepth 100000 in
theorem rin_any (n lo hi : Int) (w : World) :
    Calls Tryd.prog 41 #[.int .i64 n, .int .i64 lo, .int .i64 hi] w fun e w' => e = .returned (.bool (decide (lo ≤ n ∧ n ≤ hi))) ∧ w = w' := by
  by_cases h1 : lo ≤ n
  · by_cases h2 : n ≤ hi
    · rw [decide_eq_true (show lo ≤ n ∧ n ≤ hi from ⟨h1, h2⟩)]
      go_enter Tryd.func41, Tryd.ntmps41
      go_wp2_with fail
      go_ret
      exact ⟨rfl, rfl⟩
    · rw [decide_eq_false (show ¬ (lo ≤ n ∧ n ≤ hi) from fun h => h2 h.2)]
      go_enter Tryd.func41, Tryd.ntmps41
      go_wp2_with fail
      go_ret
      exact ⟨rfl, rfl⟩
  · rw [decide_eq_false (show ¬ (lo ≤ n ∧ n ≤ hi) from fun h => h1 h.1)]
    go_enter Tryd.func41, Tryd.ntmps41
    go_wp2_with fail
    go_ret
    exact ⟨rfl, rfl⟩
set_option maxRecDepth 100000 in
theorem rin_lit (n lo hi : Int) (b : Bool) (h : decide (lo ≤ n ∧ n ≤ hi) = b) (w : World) :
    Calls Tryd.prog 41 #[.int .i64 n, .int .i64 lo, .int .i64 hi] w fun e w' => e = .returned (.bool b) ∧ w = w' := by
  rw [← h]; exact rin_any n lo hi w
set_option maxRecDepth 100000 in
theorem vlr_lit (n : Int) (b : Bool) (h : vl n = b) (w : World) :
    Calls Tryd.prog 74 #[.int .i64 n] w fun e w' => e = .returned (.bool b) ∧ w = w' := by
  rw [← h]; exact vlr_any n w
set_option maxRecDepth 100000 in
set_option maxHeartbeats 6400000 in
theorem rvc_any (L : List T3) (p : Option Addr) (c : Nat) (q : Nat → Prop) (w : World) (hR : Rd3 w q (.slice p L.length c) L) (hm : L.length ≤ 9223372036854775807) :
    Calls Tryd.prog 42 #[.slice p L.length c] w fun e w' => e = .returned (.bool (vClaims L)) ∧ w.grownBy w' none := by
  have HR := Lib.hid hR
  clear hR
  by_cases h8 : 8 < L.length
  · have hX : vClaims L = false := by unfold vClaims; rw [decide_eq_false (by omega)]; rfl
    rw [hX]
    clear hX
    go_enter Tryd.func42, Tryd.ntmps42
    go_wp2_with fail
    go_ret
    exact ⟨rfl, grown_refl _ _⟩
  · obtain ⟨X, hX⟩ : ∃ X, vClaims L = X := ⟨_, rfl⟩
    rw [hX]
    have I0 : Hid (vCm (lastA (-1) L 0) (L.drop 0) = X ∧ -1 ≤ lastA (-1) L 0) := Lib.hid (by
      rw [lastA_zero]
      refine ⟨?_, by omega⟩
      unfold vClaims at hX
      rw [decide_eq_true (by omega)] at hX
      exact hX)
    have G0 : Hid (w.grownBy w none) := Lib.hid (grown_refl _ _)
    clear hX
    go_enter Tryd.func42, Tryd.ntmps42
    go_wp2_with fail
    go_loopw [3] (fun a wr => ∃ k : Nat, k ≤ L.length ∧ a = .int .i64 (k : Int) ∧ Hid (vCm (lastA (-1) L k) (L.drop k) = X ∧ -1 ≤ lastA (-1) L k) ∧ Hid (w.grownBy wr none)) (fun a _ => L.length - (RowKit.intOf a).toNat)
    case atStart => exact ⟨0, Nat.zero_le _, rfl, I0, G0⟩
    case round =>
      obtain ⟨k, hk, rfl, HI, HG⟩ := hrel
      clear I0 G0
      by_cases hlt : k < L.length
      · have hlti : (k : Int) < (L.length : Int) := by omega
        obtain ⟨-, b, off, rfl, -, -⟩ := rd3_cells HR.out (by omega)
        obtain ⟨x, hx⟩ : ∃ x, L[k]? = some x := ⟨_, List.getElem?_eq_getElem hlt⟩
        have HXX := Lib.hid hx
        have HS := Lib.hid (HI.out.1.symm.trans (vCm_step (d := -1) hx))
        have HLA := Lib.hid (lastA_succ (d := -1) hx)
        have hlo := HI.out.2
        obtain ⟨t, ht⟩ : ∃ t, lastA (-1) L k = t := ⟨_, rfl⟩
        rw [ht] at HS hlo
        have HTT := Lib.hid ht
        obtain ⟨v1, hv1⟩ : ∃ v1, decide ((0 : Int) ≤ x.a ∧ x.a ≤ 7) = v1 := ⟨_, rfl⟩
        obtain ⟨v2, hv2⟩ : ∃ v2, decide ((1 : Int) ≤ x.b ∧ x.b ≤ 256) = v2 := ⟨_, rfl⟩
        obtain ⟨v3, hv3⟩ : ∃ v3, decide (x.c = 8 ∨ x.c = 16 ∨ x.c = 32 ∨ x.c = 64) = v3 := ⟨_, rfl⟩
        have HV1 := Lib.hid hv1
        have HV2 := Lib.hid hv2
        have HV3 : Hid (vl x.c = v3) := Lib.hid (by rw [← hv3]; exact vl_dec x.c)
        have HO : Hid (okCm t x = (v1 && (v2 && (v3 && decide (t < x.a))))) := Lib.hid (by
          rw [← hv1, ← hv2, ← hv3, ← Bool.decide_and, ← Bool.decide_and, ← Bool.decide_and]
          unfold okCm
          exact decide_eq_decide.2 ⟨fun h => ⟨⟨by omega, h.2.1⟩, h.2.2.1, h.2.2.2, h.1⟩, fun h => ⟨h.2.2.2, h.1.2, h.2.1, h.2.2.1⟩⟩)
        clear hx ht hv1 hv2 hv3 HI
        obtain ⟨a0, a1, a2⟩ := rd3_at (HR.out.keep HG.out) HXX.out
        cases v1 with
        | false =>
          have hX : X = false := by rw [HS.out, HO.out]; rfl
          subst hX
          go_wp2_with fail
          go_big_quiet ((first | (go_at_call 41; first | with_reducible exact qt1 (rin_lit x.a 0 7 _ HV1.out _) | with_reducible exact qt1 (rin_lit x.b 1 256 _ HV2.out _)) | (go_at_call 74; first | with_reducible exact qt1 (vlr_lit x.c _ HV3.out _))))
          go_wp2_with fail
          go_ret
          exact ⟨rfl, grown_trans HG.out (grown_drewN _ _ _)⟩
        | true =>
        cases v2 with
        | false =>
          have hX : X = false := by rw [HS.out, HO.out]; rfl
          subst hX
          go_wp2_with fail
          go_big_quiet ((first | (go_at_call 41; first | with_reducible exact qt1 (rin_lit x.a 0 7 _ HV1.out _) | with_reducible exact qt1 (rin_lit x.b 1 256 _ HV2.out _)) | (go_at_call 74; first | with_reducible exact qt1 (vlr_lit x.c _ HV3.out _))))
          go_wp2_with fail
          go_ret
          exact ⟨rfl, grown_trans HG.out (grown_drewN _ _ _)⟩
        | true =>
        cases v3 with
        | false =>
          have hX : X = false := by rw [HS.out, HO.out]; rfl
          subst hX
          go_wp2_with fail
          go_big_quiet ((first | (go_at_call 41; first | with_reducible exact qt1 (rin_lit x.a 0 7 _ HV1.out _) | with_reducible exact qt1 (rin_lit x.b 1 256 _ HV2.out _)) | (go_at_call 74; first | with_reducible exact qt1 (vlr_lit x.c _ HV3.out _))))
          go_wp2_with fail
          go_ret
          exact ⟨rfl, grown_trans HG.out (grown_drewN _ _ _)⟩
        | true =>
        have hxa : 0 ≤ x.a ∧ x.a ≤ 7 := of_decide_eq_true HV1.out
        by_cases hk0 : k = 0
        · have ht0 : t = -1 := by rw [← HTT.out, hk0, lastA_zero]
          have hta : t < x.a := by omega
          have hkb : decide (0 < k) = false := decide_eq_false (by omega)
          clear hk0
          have HN : Hid (vCm (lastA (-1) L (k + 1)) (L.drop (k + 1)) = X ∧ -1 ≤ lastA (-1) L (k + 1)) := Lib.hid ⟨by rw [HS.out, HO.out, decide_eq_true hta]; rfl, by rw [HLA.out]; omega⟩
          go_wp2_with fail
          go_big_quiet ((first | (go_at_call 41; first | with_reducible exact qt1 (rin_lit x.a 0 7 _ HV1.out _) | with_reducible exact qt1 (rin_lit x.b 1 256 _ HV2.out _)) | (go_at_call 74; first | with_reducible exact qt1 (vlr_lit x.c _ HV3.out _))))
          go_wp2_with fail
          exact ⟨⟨k + 1, by omega, congrArg _ (by omega), HN, Lib.hid (grown_trans HG.out (grown_drewN _ _ _))⟩, by simp only [RowKit.intOf]; omega⟩
        · obtain ⟨j, rfl⟩ : ∃ j, k = j + 1 := ⟨k - 1, by omega⟩
          obtain ⟨y, hy⟩ : ∃ y, L[j]? = some y := ⟨_, List.getElem?_eq_getElem (by omega)⟩
          have hty : t = y.a := by rw [← HTT.out, lastA_succ hy]
          obtain ⟨z0, z1, z2⟩ := rd3_at (HR.out.keep HG.out) hy
          have hjp : (0 : Int) < ((j + 1 : Nat) : Int) := by omega
          have hjl : (j : Int) < (L.length : Int) := by omega
          have hj2 : ((j + 1 : Nat) : Int) - 1 = (j : Int) := by omega
          clear hy
          by_cases hta : t < x.a
          · have hc1 : ¬ x.a ≤ y.a := by omega
            have hc2 : decide (x.a ≤ y.a) = false := decide_eq_false hc1
            have HN : Hid (vCm (lastA (-1) L (j + 1 + 1)) (L.drop (j + 1 + 1)) = X ∧ -1 ≤ lastA (-1) L (j + 1 + 1)) := Lib.hid ⟨by rw [HS.out, HO.out, decide_eq_true hta]; rfl, by rw [HLA.out]; omega⟩
            go_wp2_with fail
            go_big_quiet ((first | (go_at_call 41; first | with_reducible exact qt1 (rin_lit x.a 0 7 _ HV1.out _) | with_reducible exact qt1 (rin_lit x.b 1 256 _ HV2.out _)) | (go_at_call 74; first | with_reducible exact qt1 (vlr_lit x.c _ HV3.out _))))
            go_wp2_with fail
            exact ⟨⟨j + 1 + 1, by omega, congrArg _ (by omega), HN, Lib.hid (grown_trans HG.out (grown_drewN _ _ _))⟩, by simp only [RowKit.intOf]; omega⟩
          · have hc1 : x.a ≤ y.a := by omega
            have hc2 : decide (x.a ≤ y.a) = true := decide_eq_true hc1
            have hX : X = false := by rw [HS.out, HO.out, decide_eq_false hta]; rfl
            subst hX
            go_wp2_with fail
            go_big_quiet ((first | (go_at_call 41; first | with_reducible exact qt1 (rin_lit x.a 0 7 _ HV1.out _) | with_reducible exact qt1 (rin_lit x.b 1 256 _ HV2.out _)) | (go_at_call 74; first | with_reducible exact qt1 (vlr_lit x.c _ HV3.out _))))
            go_wp2_with fail
            go_ret
            exact ⟨rfl, grown_trans HG.out (grown_drewN _ _ _)⟩
      · obtain rfl : k = L.length := by omega
        obtain rfl : X = true := by rw [← HI.out.1]; exact vCm_end
        go_wp2_with fail
        go_ret
        exact ⟨rfl, HG.out⟩
set_option maxRecDepth 100000 in
set_option maxHeartbeats 6400000 in
theorem rvalidA_any (A : Ad) (q : Nat → Prop) (w : World) (hA : AdOk w q A) :
    Calls Tryd.prog 15 #[A.val] w fun e w' => e = .returned (.bool (vAd A)) ∧ w.grownBy w' none := by
  have hm1 := Nat.le_trans hA.hl.1 hA.hl.2
  have hm2 := Nat.le_trans hA.hc.1 hA.hc.2
  obtain ⟨X, hX⟩ : ∃ X, vAd A = X := ⟨_, rfl⟩
  rw [hX]
  obtain ⟨r, q2, cp, L, C, pL, cL, pC, cC⟩ := A
  have hb := heap_alloc_new w (.cells #[.int .i64 r, .int .i64 q2, .bool cp, .slice pL L.length cL, .slice pC C.length cC] 26)
  have hg := World.grownBy_alloc w (.cells #[.int .i64 r, .int .i64 q2, .bool cp, .slice pL L.length cL, .slice pC C.length cC] 26) none
  have HL : Hid (Rd3 _ q (.slice pL L.length cL) L) := Lib.hid (hA.l.keep hg)
  have HC : Hid (Rd3 _ q (.slice pC C.length cC) C) := Lib.hid (hA.c.keep hg)
  have HB := Lib.hid (And.intro hb hg)
  simp only at hm1 hm2
  obtain ⟨v1, hv1⟩ : ∃ v1, decide ((1 : Int) ≤ r ∧ r ≤ 99) = v1 := ⟨_, rfl⟩
  obtain ⟨v2, hv2⟩ : ∃ v2, decide ((1 : Int) ≤ q2 ∧ q2 ≤ 1000000) = v2 := ⟨_, rfl⟩
  have HV1 := Lib.hid hv1
  have HV2 := Lib.hid hv2
  have HX : Hid (X = (v1 && (v2 && (decide (L.length ≤ 23) && (vRe r 0 L && vClaims C))))) := Lib.hid (by
    rw [← hX, ← hv1, ← hv2]
    unfold vAd vHd
    simp only [Bool.decide_and, Bool.and_assoc])
  clear hX hb hg hA hv1 hv2
  unfold Ad.val
  go_enter Tryd.func15, Tryd.ntmps15
  go_upto_region 1 with fail
  generalize w.alloc _ = wa at *
  obtain ⟨c0, c1, c2, c3, c4⟩ := row5 HB.out.1
  go_wp2_with fail
  refine (rin_lit r 1 99 _ HV1.out _).mono ?_
  rintro e w' ⟨rfl, rfl⟩
  cases v1 with
  | false =>
    obtain rfl : X = false := by rw [HX.out]; rfl
    go_wp2_with fail
    go_ret
    exact ⟨rfl, HB.out.2⟩
  | true =>
  go_wp2_with fail
  refine (rin_lit q2 1 1000000 _ HV2.out _).mono ?_
  rintro e w' ⟨rfl, rfl⟩
  cases v2 with
  | false =>
    obtain rfl : X = false := by rw [HX.out]; rfl
    go_wp2_with fail
    go_ret
    exact ⟨rfl, HB.out.2⟩
  | true =>
  by_cases h23 : 23 < L.length
  · obtain rfl : X = false := by rw [HX.out, decide_eq_false (show ¬ L.length ≤ 23 by omega)]; rfl
    go_wp2_with fail
    go_ret
    exact ⟨rfl, HB.out.2⟩
  obtain ⟨Y, hY⟩ : ∃ Y, vRe r 0 L = Y := ⟨_, rfl⟩
  have HXY : Hid (X = (Y && vClaims C)) := Lib.hid (by rw [HX.out, hY, decide_eq_true (show L.length ≤ 23 by omega)]; rfl)
  have I0 : Hid (vRe r (lastA 0 L 0) (L.drop 0) = Y ∧ 0 ≤ lastA 0 L 0) := Lib.hid (by rw [lastA_zero]; exact ⟨hY, by omega⟩)
  have G0 : Hid (wa.grownBy wa none) := Lib.hid (grown_refl _ _)
  clear hY HX
  go_wp2_with fail
  go_loopw [3] (fun a wr => ∃ k : Nat, k ≤ L.length ∧ a = .int .i64 (k : Int) ∧ Hid (vRe r (lastA 0 L k) (L.drop k) = Y ∧ 0 ≤ lastA 0 L k) ∧ Hid (wa.grownBy wr none)) (fun a _ => L.length - (RowKit.intOf a).toNat)
  case atStart => exact ⟨0, Nat.zero_le _, rfl, I0, G0⟩
  case round =>
    obtain ⟨k, hk, rfl, HI, HG⟩ := hrel
    clear I0 G0 c0 c1 c2 c3 c4
    obtain ⟨c0, c1, c2, c3, c4⟩ := row5 (kept_row HB.out.1 HG.out (by simp))
    by_cases hlt : k < L.length
    · have hlti : (k : Int) < (L.length : Int) := by omega
      obtain ⟨-, b, off, rfl, -, -⟩ := rd3_cells HL.out (by omega)
      obtain ⟨x, hx⟩ : ∃ x, L[k]? = some x := ⟨_, List.getElem?_eq_getElem hlt⟩
      obtain ⟨a0, a1, a2⟩ := rd3_at (HL.out.keep HG.out) hx
      have HS := Lib.hid (HI.out.1.symm.trans (vRe_step (r := r) (d := 0) hx))
      have HLA := Lib.hid (lastA_succ (d := 0) hx)
      have hlo := HI.out.2
      obtain ⟨t, ht⟩ : ∃ t, lastA 0 L k = t := ⟨_, rfl⟩
      rw [ht] at HS hlo
      have HTT := Lib.hid ht
      obtain ⟨v1, hv1⟩ : ∃ v1, decide ((1 : Int) ≤ x.a ∧ x.a ≤ 99) = v1 := ⟨_, rfl⟩
      obtain ⟨v2, hv2⟩ : ∃ v2, decide (x.a = r) = v2 := ⟨_, rfl⟩
      obtain ⟨v3, hv3⟩ : ∃ v3, decide ((1 : Int) ≤ x.b ∧ x.b ≤ 1000) = v3 := ⟨_, rfl⟩
      obtain ⟨v4, hv4⟩ : ∃ v4, decide ((0 : Int) ≤ x.c ∧ x.c ≤ 1000) = v4 := ⟨_, rfl⟩
      have HV1 := Lib.hid hv1
      have HV3 := Lib.hid hv3
      have HV4 := Lib.hid hv4
      have HO : Hid (okRe r t x = (v1 && (!v2 && (v3 && (v4 && decide (t < x.a)))))) := Lib.hid (by
        rw [← hv1, ← hv2, ← hv3, ← hv4]
        unfold okRe
        rw [Bool.eq_iff_iff]
        simp only [Bool.and_eq_true, Bool.not_eq_true', decide_eq_true_eq, decide_eq_false_iff_not]
        exact ⟨fun h => ⟨⟨by omega, h.2.1⟩, h.2.2.1, h.2.2.2.1, h.2.2.2.2, h.1⟩, fun h => ⟨h.2.2.2.2, h.1.2, h.2.1, h.2.2.1, h.2.2.2.1⟩⟩)
      have HEQ : Hid ((x.a == r) = v2 ∧ (x.a != r) = !v2) := Lib.hid (by rw [← hv2]; exact ⟨rfl, rfl⟩)
      have HBX := Lib.hid (heap_alloc_new wr (.cells #[.int .i64 x.a, .int .i64 x.b, .int .i64 x.c] 70))
      have HGA := Lib.hid (World.grownBy_alloc wr (.cells #[.int .i64 x.a, .int .i64 x.b, .int .i64 x.c] 70) none)
      have HXX := Lib.hid hx
      clear hx ht hv1 hv2 hv3 hv4 HI
      go_upto_region 7 with fail
      clear a0 a1 a2 c0 c1 c2 c3 c4
      generalize wr.alloc _ = w3 at *
      have HG3 := Lib.hid (grown_trans HG.out HGA.out)
      obtain ⟨c0, c1, c2, c3, c4⟩ := row5 (kept_row HB.out.1 HG3.out (by simp))
      obtain ⟨d0, d1, d2⟩ := row3 HBX.out
      clear HG HGA
      cases v1 with
      | false =>
        obtain rfl : X = false := by rw [HXY.out, HS.out, HO.out]; rfl
        go_big_quiet ((first | (go_at_call 41; first | with_reducible exact qt1 (rin_lit x.a 1 99 _ HV1.out _) | with_reducible exact qt1 (rin_lit x.b 1 1000 _ HV3.out _) | with_reducible exact qt1 (rin_lit x.c 0 1000 _ HV4.out _))))
        go_wp2_with fail
        go_ret
        exact ⟨rfl, grown_trans HB.out.2 (grown_trans HG3.out (grown_drewN _ _ _))⟩
      | true =>
      cases v2 with
      | true =>
        have he1 : (x.a == r) = true := HEQ.out.1
        have he2 : (x.a != r) = false := HEQ.out.2
        obtain rfl : X = false := by rw [HXY.out, HS.out, HO.out]; rfl
        go_big_quiet ((first | (go_at_call 41; first | with_reducible exact qt1 (rin_lit x.a 1 99 _ HV1.out _) | with_reducible exact qt1 (rin_lit x.b 1 1000 _ HV3.out _) | with_reducible exact qt1 (rin_lit x.c 0 1000 _ HV4.out _))))
        go_wp2_with fail
        go_ret
        exact ⟨rfl, grown_trans HB.out.2 (grown_trans HG3.out (grown_drewN _ _ _))⟩
      | false =>
      have he1 : (x.a == r) = false := HEQ.out.1
      have he2 : (x.a != r) = true := HEQ.out.2
      cases v3 with
      | false =>
        obtain rfl : X = false := by rw [HXY.out, HS.out, HO.out]; rfl
        go_big_quiet ((first | (go_at_call 41; first | with_reducible exact qt1 (rin_lit x.a 1 99 _ HV1.out _) | with_reducible exact qt1 (rin_lit x.b 1 1000 _ HV3.out _) | with_reducible exact qt1 (rin_lit x.c 0 1000 _ HV4.out _))))
        go_wp2_with fail
        go_ret
        exact ⟨rfl, grown_trans HB.out.2 (grown_trans HG3.out (grown_drewN _ _ _))⟩
      | true =>
      cases v4 with
      | false =>
        obtain rfl : X = false := by rw [HXY.out, HS.out, HO.out]; rfl
        go_big_quiet ((first | (go_at_call 41; first | with_reducible exact qt1 (rin_lit x.a 1 99 _ HV1.out _) | with_reducible exact qt1 (rin_lit x.b 1 1000 _ HV3.out _) | with_reducible exact qt1 (rin_lit x.c 0 1000 _ HV4.out _))))
        go_wp2_with fail
        go_ret
        exact ⟨rfl, grown_trans HB.out.2 (grown_trans HG3.out (grown_drewN _ _ _))⟩
      | true =>
      have hxa : 1 ≤ x.a ∧ x.a ≤ 99 := of_decide_eq_true HV1.out
      by_cases hk0 : k = 0
      · have ht0 : t = 0 := by rw [← HTT.out, hk0, lastA_zero]
        have hta : t < x.a := by omega
        have hkb : decide (0 < k) = false := decide_eq_false (by omega)
        clear hk0
        have HN : Hid (vRe r (lastA 0 L (k + 1)) (L.drop (k + 1)) = Y ∧ 0 ≤ lastA 0 L (k + 1)) := Lib.hid ⟨by rw [HS.out, HO.out, decide_eq_true hta]; rfl, by rw [HLA.out]; omega⟩
        go_big_quiet ((first | (go_at_call 41; first | with_reducible exact qt1 (rin_lit x.a 1 99 _ HV1.out _) | with_reducible exact qt1 (rin_lit x.b 1 1000 _ HV3.out _) | with_reducible exact qt1 (rin_lit x.c 0 1000 _ HV4.out _))))
        go_wp2_with fail
        exact ⟨⟨k + 1, by omega, congrArg _ (by omega), HN, Lib.hid (grown_trans HG3.out (grown_drewN _ _ _))⟩, by simp only [RowKit.intOf]; omega⟩
      · obtain ⟨j, rfl⟩ : ∃ j, k = j + 1 := ⟨k - 1, by omega⟩
        obtain ⟨y, hy⟩ : ∃ y, L[j]? = some y := ⟨_, List.getElem?_eq_getElem (by omega)⟩
        have hty : t = y.a := by rw [← HTT.out, lastA_succ hy]
        obtain ⟨z0, z1, z2⟩ := rd3_at (HL.out.keep HG3.out) hy
        have hjp : (0 : Int) < ((j + 1 : Nat) : Int) := by omega
        have hjl : (j : Int) < (L.length : Int) := by omega
        have hj2 : ((j + 1 : Nat) : Int) - 1 = (j : Int) := by omega
        clear hy
        by_cases hta : t < x.a
        · have hc1 : ¬ x.a ≤ y.a := by omega
          have hc2 : decide (x.a ≤ y.a) = false := decide_eq_false hc1
          have HN : Hid (vRe r (lastA 0 L (j + 1 + 1)) (L.drop (j + 1 + 1)) = Y ∧ 0 ≤ lastA 0 L (j + 1 + 1)) := Lib.hid ⟨by rw [HS.out, HO.out, decide_eq_true hta]; rfl, by rw [HLA.out]; omega⟩
          go_big_quiet ((first | (go_at_call 41; first | with_reducible exact qt1 (rin_lit x.a 1 99 _ HV1.out _) | with_reducible exact qt1 (rin_lit x.b 1 1000 _ HV3.out _) | with_reducible exact qt1 (rin_lit x.c 0 1000 _ HV4.out _))))
          go_wp2_with fail
          exact ⟨⟨j + 1 + 1, by omega, congrArg _ (by omega), HN, Lib.hid (grown_trans HG3.out (grown_drewN _ _ _))⟩, by simp only [RowKit.intOf]; omega⟩
        · have hc1 : x.a ≤ y.a := by omega
          have hc2 : decide (x.a ≤ y.a) = true := decide_eq_true hc1
          obtain rfl : X = false := by rw [HXY.out, HS.out, HO.out, decide_eq_false hta]; rfl
          go_big_quiet ((first | (go_at_call 41; first | with_reducible exact qt1 (rin_lit x.a 1 99 _ HV1.out _) | with_reducible exact qt1 (rin_lit x.b 1 1000 _ HV3.out _) | with_reducible exact qt1 (rin_lit x.c 0 1000 _ HV4.out _))))
          go_wp2_with fail
          go_ret
          exact ⟨rfl, grown_trans HB.out.2 (grown_trans HG3.out (grown_drewN _ _ _))⟩
    · obtain rfl : k = L.length := by omega
      obtain rfl : Y = true := by rw [← HI.out.1]; exact vRe_end
      go_wp2_with fail
      have hC := rvc_any C pC cC q wr (HC.out.keep HG.out) hm2
      rw [show vClaims C = X by rw [HXY.out]; rfl] at hC
      refine hC.mono ?_
      rintro e w4 ⟨rfl, hg⟩
      have HF := Lib.hid (grown_trans HB.out.2 (grown_trans HG.out hg))
      clear hg hC
      go_wp2_with fail
      go_ret
      exact ⟨rfl, HF.out⟩
end Go.Proofs.YtpoocenooomghaaDoor

/- Parts of the proof, packed: AdRdr, AdTapB. -/
import Derived.Test.YtpoocenooomghaaDoorNw11
import Derived.Deep.RegionHeld3
import Derived.Deep.CutBlock
import Derived.Deep.CutRange
import Derived.Test.YtpoocenooomghaaDoorNw2
/- advert: the reader's advert: the fields that the bytes say. -/
namespace Go.Proofs.YtpoocenooomghaaDoor
open Go.RowKit Bs
/-- The fields of an advert are returned; the reader stands behind them. -/
def RdPost (l : List Nat) (p : Option Addr) (c S : Nat) (w : World) (e : Ending) (w' : World) : Prop :=
  ∃ A : Ad, e = .returned A.val ∧ AdIs l A ∧ AdOk w' (w.heap.size ≤ ·) A ∧ RN w S l p c (eCm l) w'
set_option maxRecDepth 100000 in
theorem fd_le (l : List Nat) (p k n : Nat) (h : 2 ^ k ≤ n) : fd l p k < n := Nat.lt_of_lt_of_le (fd_lt l p k) h
set_option maxRecDepth 100000 in
theorem shl8 {x : Nat} (h : x < 4) : (8 : Int) * 2 ^ x = ((8 * 2 ^ x : Nat) : Int) := by
  rcases (show x = 0 ∨ x = 1 ∨ x = 2 ∨ x = 3 by omega) with rfl | rfl | rfl | rfl <;> rfl
set_option maxRecDepth 100000 in
theorem ag_start {W w : World} {Z : Nat} {r q : Int} {cp : Bool} (hz : w.heap[Z]? = some (.cells #[.int .i64 0, .int .i64 0, .bool false, .slice none 0 0, .slice none 0 0] 26 (0, 0))) (h1 : W.heap.size ≤ Z) (h2 : Z < w.heap.size) :
    AG W Z w.heap.size r q cp (.slice none 0 0) (.slice none 0 0) (.slice none 0 0) (.slice none 0 0) [] [] (w.alloc (.cells #[.int .i64 r, .int .i64 q, .bool cp, .slice none 0 0, .slice none 0 0] 26)) := by
  have g := World.grownBy_alloc w (.cells #[.int .i64 r, .int .i64 q, .bool cp, .slice none 0 0, .slice none 0 0] 26) none
  exact ⟨kept_row hz g (by simp), heap_alloc_new w _, World.ownsRow_nil _ _ _ _, World.ownsRow_nil _ _ _ _, fun g hg => (by cases hg), ⟨h1, h2⟩, by simp⟩
set_option maxRecDepth 100000 in
theorem adv_size : (Tryd.prog.info? 26).map (·.size) = some 5 := by kernel_rfl
set_option maxRecDepth 100000 in
theorem res_adv {fn : Func} {p : Tmp} (h : fn.results = #[.cell p 26]) (tmps : Array Value) (w : World) (g : Nat) (x y z u v : Value) (hp : tmps.getD p undef = .pointer (some ⟨g, 0, none⟩)) (hg : w.heap[g]? = some (.cells #[x, y, z, u, v] 26 (0, 0))) :
    (results fn tmps).run Tryd.prog w = .ok (.agg #[x, y, z, u, v]) w :=
  results_cell_row h tmps w g _ _ _ _ hp hg Tryd.underlying26 rfl adv_size
set_option maxRecDepth 100000 in
theorem row5 {w : World} {b : Nat} {t : TypeId} {x0 x1 x2 x3 x4 : Value} (h : w.heap[b]? = some (.cells #[x0, x1, x2, x3, x4] t (0, 0))) :
    w.cell? ⟨b, 0, none⟩ = some x0 ∧ w.cell? ⟨b, 1, none⟩ = some x1 ∧ w.cell? ⟨b, 2, none⟩ = some x2 ∧ w.cell? ⟨b, 3, none⟩ = some x3 ∧ w.cell? ⟨b, 4, none⟩ = some x4 := by
  refine ⟨?_, ?_, ?_, ?_, ?_⟩ <;> (rw [cell_of_row _ _ _ _ _ _ h]; rfl)
set_option maxRecDepth 100000 in
theorem store5 {w : World} {b : Nat} {t : TypeId} {x0 x1 x2 x3 x4 : Value} (u0 u1 u2 u3 u4 : Value) (h : w.heap[b]? = some (.cells #[x0, x1, x2, x3, x4] t (0, 0))) :
    (((((w.setCell ⟨b, 0, none⟩ u0).setCell ⟨b, 1, none⟩ u1).setCell ⟨b, 2, none⟩ u2).setCell ⟨b, 3, none⟩ u3).setCell ⟨b, 4, none⟩ u4).heap[b]? = some (.cells #[u0, u1, u2, u3, u4] t (0, 0)) ∧
    w.grownBy (((((w.setCell ⟨b, 0, none⟩ u0).setCell ⟨b, 1, none⟩ u1).setCell ⟨b, 2, none⟩ u2).setCell ⟨b, 3, none⟩ u3).setCell ⟨b, 4, none⟩ u4) (some b) := by
  have h1 := heap_setCell_same w b 0 _ _ u0 h
  have h2 := heap_setCell_same _ b 1 _ _ u1 h1
  have h3 := heap_setCell_same _ b 2 _ _ u2 h2
  have h4 := heap_setCell_same _ b 3 _ _ u3 h3
  have h5 := heap_setCell_same _ b 4 _ _ u4 h4
  refine ⟨by rw [h5]; rfl, ?_⟩
  have g1 := grown_setCell w ⟨b, 0, none⟩ u0
  have g2 := grown_setCell (w.setCell ⟨b, 0, none⟩ u0) ⟨b, 1, none⟩ u1
  have g3 := grown_setCell ((w.setCell ⟨b, 0, none⟩ u0).setCell ⟨b, 1, none⟩ u1) ⟨b, 2, none⟩ u2
  have g4 := grown_setCell (((w.setCell ⟨b, 0, none⟩ u0).setCell ⟨b, 1, none⟩ u1).setCell ⟨b, 2, none⟩ u2) ⟨b, 3, none⟩ u3
  have g5 := grown_setCell ((((w.setCell ⟨b, 0, none⟩ u0).setCell ⟨b, 1, none⟩ u1).setCell ⟨b, 2, none⟩ u2).setCell ⟨b, 3, none⟩ u3) ⟨b, 4, none⟩ u4
  exact grown_trans (grown_trans (grown_trans (grown_trans g1 g2) g3) g4) g5
set_option maxRecDepth 100000 in
theorem ar_putL {W w : World} {Z B S c pos : Nat} {r q : Int} {cp : Bool} {uL uC vL vC : Value} {L C : List T3} {l : List Nat} {p : Option Addr} (h : AG W Z B r q cp uL uC vL vC L C w ∧ RN W S l p c pos w) :
    AG W Z B r q cp vL uC vL vC L C (w.setCell ⟨B, 3, none⟩ vL) ∧ RN W S l p c pos (w.setCell ⟨B, 3, none⟩ vL) := by
  have := h.1.lo
  exact ⟨h.1.putL, h.2.new (grown_setCell w ⟨B, 3, none⟩ vL) (by show W.heap.size ≤ B; omega)⟩
set_option maxRecDepth 100000 in
theorem ar_putC {W w : World} {Z B S c pos : Nat} {r q : Int} {cp : Bool} {uL uC vL vC : Value} {L C : List T3} {l : List Nat} {p : Option Addr} (h : AG W Z B r q cp uL uC vL vC L C w ∧ RN W S l p c pos w) :
    AG W Z B r q cp uL vC vL vC L C (w.setCell ⟨B, 4, none⟩ vC) ∧ RN W S l p c pos (w.setCell ⟨B, 4, none⟩ vC) := by
  have := h.1.lo
  exact ⟨h.1.putC, h.2.new (grown_setCell w ⟨B, 4, none⟩ vC) (by show W.heap.size ≤ B; omega)⟩
set_option maxRecDepth 100000 in
set_option maxHeartbeats 6400000 in
theorem ardr_any (l : List Nat) (hl : By l) (h1 : l.length ≤ 1024) (S : Nat) (p : Option Addr) (c : Nat) (w : World) (hR : RN w S l p c 0 w) :
    Calls Tryd.prog 50 #[.pointer (some ⟨S, 0, none⟩)] w fun e w' => RdPost l p c S w e w' := by
  obtain ⟨ir, hir, hr0, hr1, hr2⟩ := info_parts info_re
  obtain ⟨ic, hic, hc0, hc1, hc2⟩ := info_parts info_cm
  have HB := Lib.hid (And.intro hl h1)
  have kz := heap_alloc_new w (.cells #[.int .i64 0, .int .i64 0, .bool false, .slice none 0 0, .slice none 0 0] 26)
  have kg := World.grownBy_alloc w (.cells #[.int .i64 0, .int .i64 0, .bool false, .slice none 0 0, .slice none 0 0] 26) none
  have hS := hR.lt
  have H0 := Lib.hid (And.intro kz (hR.keep kg))
  have HZ : Hid (w.heap.size < (w.alloc (.cells #[.int .i64 0, .int .i64 0, .bool false, .slice none 0 0, .slice none 0 0] 26)).heap.size) := Lib.hid (by simp)
  clear kz kg hR hl h1
  go_enter Tryd.func50, Tryd.ntmps50
  go_upto_region 1 with fail
  generalize w.alloc _ = wa at *
  go_wp2_with fail
  refine (H0.out.2.take HB.out.1 HB.out.2 7 (by decide) (by omega)).mono ?_
  rintro e w1 ⟨rfl, hR, hg⟩
  have H1 := Lib.hid (And.intro (kept_row H0.out.1 hg (fun e => by have := Option.some.inj e; omega)) (And.intro hR (Nat.lt_of_lt_of_le HZ.out hg.size)))
  clear hR hg H0 HZ
  go_wp2_with fail
  refine (H1.out.2.1.take HB.out.1 HB.out.2 20 (by decide) (by omega)).mono ?_
  rintro e w2 ⟨rfl, hR, hg⟩
  have H2 := Lib.hid (And.intro (kept_row H1.out.1 hg (fun e => by have := Option.some.inj e; omega)) (And.intro hR (Nat.lt_of_lt_of_le H1.out.2.2 hg.size)))
  clear hR hg H1
  go_wp2_with fail
  refine (H2.out.2.1.take HB.out.1 HB.out.2 1 (by decide) (by omega)).mono ?_
  rintro e w3 ⟨rfl, hR, hg⟩
  have H3 := Lib.hid (And.intro (kept_row H2.out.1 hg (fun e => by have := Option.some.inj e; omega)) (And.intro hR (Nat.lt_of_lt_of_le H2.out.2.2 hg.size)))
  clear hR hg H2
  have H4 := Lib.hid (And.intro (ag_start (W := w) (r := ((fd l 0 7 : Nat) : Int)) (q := ((fd l 7 20 : Nat) : Int)) (cp := (((fd l 27 1 : Nat) : Int) == 1)) H3.out.1 (Nat.le_refl _) H3.out.2.2) (H3.out.2.1.keep (World.grownBy_alloc w3 (.cells #[.int .i64 ((fd l 0 7 : Nat) : Int), .int .i64 ((fd l 7 20 : Nat) : Int), .bool (((fd l 27 1 : Nat) : Int) == 1), .slice none 0 0, .slice none 0 0] 26) none)))
  clear H3
  go_upto_region 2 with fail
  generalize w3.alloc _ = w4 at *
  generalize w3.heap.size = B at *
  obtain ⟨r, hr⟩ : ∃ r, ((fd l 0 7 : Nat) : Int) = r := ⟨_, rfl⟩
  obtain ⟨q, hq⟩ : ∃ q, ((fd l 7 20 : Nat) : Int) = q := ⟨_, rfl⟩
  obtain ⟨cp, hcp⟩ : ∃ cp, (((fd l 27 1 : Nat) : Int) == 1) = cp := ⟨_, rfl⟩
  obtain ⟨o1, ho1⟩ : ∃ o, ((fd l 27 1 : Nat) : Int) = o := ⟨_, rfl⟩
  rw [hr, hq, hcp] at H4
  rw [hcp, hr, hq, ho1]
  have HE := Lib.hid (And.intro hr (And.intro hq hcp))
  clear hr hq hcp ho1
  go_wp2_with fail
  refine (H4.out.2.take HB.out.1 HB.out.2 5 (by decide) (by omega)).mono ?_
  rintro e w5 ⟨rfl, hR, hg⟩
  have H5 := Lib.hid (And.intro (H4.out.1.out hg hS) hR)
  clear hR hg H4
  have hn32 : fd l 28 5 < 32 := fd_lt l 28 5
  obtain ⟨n, hn⟩ : ∃ n, fd l (0 + 7 + 20 + 1) 5 = n := ⟨_, rfl⟩
  rw [hn]
  have hn31 : n ≤ 31 := by rw [show 0 + 7 + 20 + 1 = 28 from rfl] at hn; omega
  have HN := Lib.hid (show nLk l = n from hn)
  clear hn hn32
  go_upto_block 0 with fail
  go_cut [] from 14 to 28 (fun wx => ∃ vL, Hid (AG w w.heap.size B r q cp vL (.slice none 0 0) vL (.slice none 0 0) (rdL l n) [] wx ∧ RN w S l p c (33 + n * 27) wx))
  case first =>
    go_wp2_with fail
    go_loopw [14] (fun i wr => ∃ k : Nat, k ≤ n ∧ i = .int .i64 (k : Int) ∧ ∃ vL, Hid (AG w w.heap.size B r q cp vL (.slice none 0 0) vL (.slice none 0 0) (rdL l k) [] wr ∧ RN w S l p c (33 + k * 27) wr)) (fun i _ => n - (RowKit.intOf i).toNat)
    case atStart => exact ⟨0, Nat.zero_le _, rfl, _, H5⟩
    case round =>
      obtain ⟨k, hk, rfl, vL, HK⟩ := hrel
      clear H5
      by_cases hlt : k < n
      · go_upto_region 4 with fail
        have HD := Lib.hid (And.intro (HK.out.1.keep (grown_drew (grown_refl wr none))) (HK.out.2.keep (grown_drew (grown_refl wr none))))
        have hp33 : 33 + k * 27 ≤ 1000 := by omega
        clear HK
        refine region_until (S := fun w' => Hid (w'.heap[B]? = some (.cells #[.int .i64 r, .int .i64 q, .bool cp, vL, .slice none 0 0] 26 (0, 0)))) (fun j => j == 10 || j == 11 || j == 12) (by kernel_rfl) (Lib.hid HD.out.1.ab) (fun hHeld => ?_)
        refine anyU_take (i := 0) (oi := { dst := some 16, op := Op.fieldAddr 26 (Operand.tmp 3) 3, type := 0, pos := "advert.go:241", after := #[], guard := none }) (v := ?_) rfl (by kernel_rfl) (by kernel_rfl) (by kernel_rfl) (by kernel_rfl) (by kernel_rfl) (fun _ _ _ h => h) (Or.inl ⟨by rfl, ?_⟩) hHeld ?_
        rotate_left 1
        · intro u hSu
          have q0 := (cell_of_row _ _ 3 _ _ _ hSu.out)
          go_simp
          first | done | with_reducible rfl
        (try simp only [Act.put, List.setIfInBounds_toArray, List.set_cons_zero, List.set_cons_succ])
        refine anyU_take (i := 1) (oi := { dst := some 17, op := Op.load 23 (Operand.tmp 16), type := 23, pos := "advert.go:241", after := #[{ on := 0, ground := Ground.data }], guard := none }) (v := ?_) rfl (by kernel_rfl) (by kernel_rfl) (by kernel_rfl) (by kernel_rfl) (by kernel_rfl) (fun _ _ _ h => h) (Or.inl ⟨by rfl, ?_⟩) hHeld ?_
        rotate_left 1
        · intro u hSu
          have q0 := (cell_of_row _ _ 3 _ _ _ hSu.out)
          go_simp
          first | done | with_reducible rfl
        (try simp only [Act.put, List.setIfInBounds_toArray, List.set_cons_zero, List.set_cons_succ])
        refine anyU_take (i := 2) (oi := { dst := some 18, op := Op.move (Operand.tmp 0), type := 112, pos := "advert.go:241", after := #[], guard := none }) (v := ?_) rfl (by kernel_rfl) (by kernel_rfl) (by kernel_rfl) (by kernel_rfl) (by kernel_rfl) (fun _ _ _ h => h) (Or.inl ⟨by rfl, ?_⟩) hHeld ?_
        rotate_left 1
        · intro u hSu
          have q0 := (cell_of_row _ _ 3 _ _ _ hSu.out)
          go_simp
          first | done | with_reducible rfl
        (try simp only [Act.put, List.setIfInBounds_toArray, List.set_cons_zero, List.set_cons_succ])
        refine anyU_take (i := 4) (oi := { dst := some 20, op := Op.move (Operand.tmp 0), type := 112, pos := "advert.go:241", after := #[], guard := none }) (v := ?_) rfl (by kernel_rfl) (by kernel_rfl) (by kernel_rfl) (by kernel_rfl) (by kernel_rfl) (fun _ _ _ h => h) (Or.inl ⟨by rfl, ?_⟩) hHeld ?_
        rotate_left 1
        · intro u hSu
          have q0 := (cell_of_row _ _ 3 _ _ _ hSu.out)
          go_simp
          first | done | with_reducible rfl
        (try simp only [Act.put, List.setIfInBounds_toArray, List.set_cons_zero, List.set_cons_succ])
        refine anyU_take (i := 6) (oi := { dst := some 22, op := Op.move (Operand.tmp 0), type := 112, pos := "advert.go:241", after := #[], guard := none }) (v := ?_) rfl (by kernel_rfl) (by kernel_rfl) (by kernel_rfl) (by kernel_rfl) (by kernel_rfl) (fun _ _ _ h => h) (Or.inl ⟨by rfl, ?_⟩) hHeld ?_
        rotate_left 1
        · intro u hSu
          have q0 := (cell_of_row _ _ 3 _ _ _ hSu.out)
          go_simp
          first | done | with_reducible rfl
        (try simp only [Act.put, List.setIfInBounds_toArray, List.set_cons_zero, List.set_cons_succ])
        refine anyU_ready (rs := [3]) (by kernel_rfl) (by simp) ?_
        refine EachU.cons (o := { dst := some 19, op := Op.call { callee := Callee.value (Operand.func 52), args := #[Operand.tmp 18, Operand.const (Value.int IntKind.i64 7)], argTypes := #[112, 3] }, type := 3, pos := "advert.go:241", after := #[{ on := 2, ground := Ground.data }], guard := none }) rfl (fun Kz hK => ?_) EachU.nil
        go_simp
        go_at_call 52
        refine (HD.out.2.take HB.out.1 HB.out.2 7 (by decide) (by omega)).mono ?_
        rintro e w5 ⟨rfl, hR, hg⟩
        have HDn := Lib.hid (And.intro (HD.out.1.out hg hR.lt) hR)
        clear hR hg HD
        have HD := HDn
        clear HDn
        refine hK.out _ _ (fun _ => Lib.hid HD.out.1.ab) (fun hH2 => ?_)
        clear hK Kz hHeld
        have hHeld := hH2 rfl
        clear hH2
        (try simp only [Act.put, List.setIfInBounds_toArray, List.set_cons_zero, List.set_cons_succ])
        refine anyU_ready (rs := [5]) (by kernel_rfl) (by simp) ?_
        refine EachU.cons (o := { dst := some 21, op := Op.call { callee := Callee.value (Operand.func 52), args := #[Operand.tmp 20, Operand.const (Value.int IntKind.i64 10)], argTypes := #[112, 3] }, type := 3, pos := "advert.go:241", after := #[{ on := 4, ground := Ground.data }, { on := 3, ground := Ground.chain }], guard := none }) rfl (fun Kz hK => ?_) EachU.nil
        go_simp
        go_at_call 52
        refine (HD.out.2.take HB.out.1 HB.out.2 10 (by decide) (by omega)).mono ?_
        rintro e w5 ⟨rfl, hR, hg⟩
        have HDn := Lib.hid (And.intro (HD.out.1.out hg hR.lt) hR)
        clear hR hg HD
        have HD := HDn
        clear HDn
        refine hK.out _ _ (fun _ => Lib.hid HD.out.1.ab) (fun hH2 => ?_)
        clear hK Kz hHeld
        have hHeld := hH2 rfl
        clear hH2
        (try simp only [Act.put, List.setIfInBounds_toArray, List.set_cons_zero, List.set_cons_succ])
        refine anyU_ready (rs := [7]) (by kernel_rfl) (by simp) ?_
        refine EachU.cons (o := { dst := some 23, op := Op.call { callee := Callee.value (Operand.func 52), args := #[Operand.tmp 22, Operand.const (Value.int IntKind.i64 10)], argTypes := #[112, 3] }, type := 3, pos := "advert.go:241", after := #[{ on := 6, ground := Ground.data }, { on := 5, ground := Ground.chain }], guard := none }) rfl (fun Kz hK => ?_) EachU.nil
        go_simp
        go_at_call 52
        refine (HD.out.2.take HB.out.1 HB.out.2 10 (by decide) (by omega)).mono ?_
        rintro e w5 ⟨rfl, hR, hg⟩
        have HDn := Lib.hid (And.intro (HD.out.1.out hg hR.lt) hR)
        clear hR hg HD
        have HD := HDn
        clear HDn
        refine hK.out _ _ (fun _ => Lib.hid HD.out.1.ab) (fun hH2 => ?_)
        clear hK Kz hHeld
        have hHeld := hH2 rfl
        clear hH2
        (try simp only [Act.put, List.setIfInBounds_toArray, List.set_cons_zero, List.set_cons_succ])
        refine anyU_take (i := 8) (oi := { dst := some 24, op := Op.build 70 #[(0, Operand.tmp 19), (1, Operand.tmp 21), (2, Operand.tmp 23)], type := 70, pos := "advert.go:241", after := #[{ on := 3, ground := Ground.data }, { on := 5, ground := Ground.data }, { on := 7, ground := Ground.data }], guard := none }) (v := ?_) rfl (by kernel_rfl) (by kernel_rfl) (by kernel_rfl) (by kernel_rfl) (by kernel_rfl) (fun _ _ _ h => h) (Or.inl ⟨by rfl, ?_⟩) hHeld ?_
        rotate_left 1
        · intro u hSu
          have q0 := (cell_of_row _ _ 3 _ _ _ hSu.out)
          go_simp
          first | done | with_reducible rfl
        (try simp only [Act.put, List.setIfInBounds_toArray, List.set_cons_zero, List.set_cons_succ])
        refine anyU_ready (rs := [9]) (by kernel_rfl) (by simp) ?_
        refine EachU.cons (o := { dst := some 25, op := Op.buildSlice 23 1 #[(0, Operand.tmp 24)], type := 23, pos := "advert.go:241", after := #[{ on := 8, ground := Ground.data }], guard := none }) rfl (fun Kz hK => ?_) EachU.nil
        go_simp
        have HDn := Lib.hid (And.intro (HD.out.1.keep (World.grownBy_alloc _ (.cells #[.int .i64 ((fd l (33 + k * 27) 7 : Nat) : Int), .int .i64 ((fd l (33 + k * 27 + 7) 10 : Nat) : Int), .int .i64 ((fd l (33 + k * 27 + 7 + 10) 10 : Nat) : Int)] 70) none)) (HD.out.2.keep (World.grownBy_alloc _ (.cells #[.int .i64 ((fd l (33 + k * 27) 7 : Nat) : Int), .int .i64 ((fd l (33 + k * 27 + 7) 10 : Nat) : Int), .int .i64 ((fd l (33 + k * 27 + 7 + 10) 10 : Nat) : Int)] 70) none)))
        clear HD
        have HD := HDn
        clear HDn
        refine hK.out _ _ (fun _ => Lib.hid HD.out.1.ab) (fun hH2 => ?_)
        clear hK Kz hHeld
        have hHeld := hH2 rfl
        clear hH2
        (try simp only [Act.put, List.setIfInBounds_toArray, List.set_cons_zero, List.set_cons_succ])
        refine anyU_ready (rs := [10]) (by kernel_rfl) (by simp) ?_
        refine EachU.cons (o := { dst := some 26, op := Op.call { callee := Callee.builtin Builtin.append, args := #[Operand.tmp 17, Operand.tmp 25], argTypes := #[23, 23] }, type := 23, pos := "advert.go:241", after := #[{ on := 1, ground := Ground.data }, { on := 9, ground := Ground.data }, { on := 7, ground := Ground.chain }], guard := none }) rfl (fun Kz hK => ?_) EachU.nil
        refine (astep_app t3C 3 24 (by decide) (fun _ => rfl) t3_one 70 23 ir _ Tryd.underlying23 hir hr0 hr1 hr2 rfl (by decide) (by rfl) _ _ (by rfl) (B + 1) vL (rdL l k) (by rfl) HD.out.1.oL (some ⟨_, 0, none⟩) 1 1 [⟨((fd l (33 + k * 27) 7 : Nat) : Int), ((fd l (33 + k * 27 + 7) 10 : Nat) : Int), ((fd l (33 + k * 27 + 7 + 10) 10 : Nat) : Int)⟩] (by rfl) rfl (by simp) (fun _ => True) (rdf_one _ trivial (cells3 _ _ _ _ _) 1) (by omega) (by rw [rdL_len]; simp; omega) (by have := HD.out.1.sz; omega) ?_)
        intro p4 c4 w8 hown hg hat
        have HD5 := Lib.hid (And.intro (HD.out.1.addL (M := rdL l k ++ [⟨((fd l (33 + k * 27) 7 : Nat) : Int), ((fd l (33 + k * 27 + 7) 10 : Nat) : Int), ((fd l (33 + k * 27 + 7 + 10) 10 : Nat) : Int)⟩]) hown hg hat) (HD.out.2.row hg (fun b hb => by have := HD.out.1.geL b hb; have := HD.out.1.lo; omega)))
        rw [← (show rdL l (k + 1) = rdL l k ++ [⟨((fd l (33 + k * 27) 7 : Nat) : Int), ((fd l (33 + k * 27 + 7) 10 : Nat) : Int), ((fd l (33 + k * 27 + 7 + 10) 10 : Nat) : Int)⟩] by rw [rdL_succ])] at HD5
        obtain ⟨c90, c91, c92, c93, c94⟩ := HD5.out.1.cells
        have fB := frozen_of_row _ _ 3 _ _ HD5.out.1.ab
        clear hown hg hat HD
        refine hK.out _ _ (fun h => by cases h) (fun _ => ?_)
        clear hK Kz
        (try simp only [Act.put, List.setIfInBounds_toArray, List.set_cons_zero, List.set_cons_succ])
        refine anyU_ready (rs := [11]) (by kernel_rfl) (by simp) ?_
        refine EachU.cons (o := { dst := some 27, op := Op.fieldAddr 26 (Operand.tmp 3) 3, type := 0, pos := "advert.go:241", after := #[{ on := 0, ground := Ground.phase }, { on := 1, ground := Ground.phase }, { on := 2, ground := Ground.phase }, { on := 3, ground := Ground.phase }, { on := 4, ground := Ground.phase }, { on := 5, ground := Ground.phase }, { on := 6, ground := Ground.phase }, { on := 7, ground := Ground.phase }, { on := 8, ground := Ground.phase }, { on := 9, ground := Ground.phase }, { on := 10, ground := Ground.phase }], guard := none }) rfl (fun Kz hK => ?_) EachU.nil
        go_simp
        refine hK.out _ _ (fun h => by cases h) (fun _ => ?_)
        clear hK Kz
        (try simp only [Act.put, List.setIfInBounds_toArray, List.set_cons_zero, List.set_cons_succ])
        refine anyU_ready (rs := [12]) (by kernel_rfl) (by simp) ?_
        refine EachU.cons (o := { dst := none, op := Op.store 23 (Operand.tmp 27) (Operand.tmp 26), type := 0, pos := "advert.go:241", after := #[{ on := 11, ground := Ground.data }, { on := 10, ground := Ground.data }, { on := 10, ground := Ground.chain }, { on := 0, ground := Ground.phase }, { on := 1, ground := Ground.phase }, { on := 2, ground := Ground.phase }, { on := 3, ground := Ground.phase }, { on := 4, ground := Ground.phase }, { on := 5, ground := Ground.phase }, { on := 6, ground := Ground.phase }, { on := 7, ground := Ground.phase }, { on := 8, ground := Ground.phase }, { on := 9, ground := Ground.phase }, { on := 10, ground := Ground.phase }], guard := none }) rfl (fun Kz hK => ?_) EachU.nil
        go_simp
        refine hK.out _ _ (fun h => by cases h) (fun _ => ?_)
        clear hK Kz
        (try simp only [Act.put, List.setIfInBounds_toArray, List.set_cons_zero, List.set_cons_succ])
        refine anyU_done (by kernel_rfl) ?_ _
        have HN := Lib.hid (ar_putL HD5.out)
        clear HD5 hHeld c90 c91 c92 c93 c94 fB
        go_wp2_with fail
        exact ⟨⟨k + 1, by omega, congrArg _ (by omega), _, by rw [show 33 + (k + 1) * 27 = 33 + k * 27 + 7 + 10 + 10 by omega]; exact HN⟩, by simp only [RowKit.intOf]; omega⟩
      · obtain rfl : k = n := by omega
        go_wp2_with fail
        go_meet
        exact ⟨vL, HK⟩
  case rest =>
  obtain ⟨vL, HK⟩ := hcut
  clear H5
  go_wp2_with fail
  refine (HK.out.2.take HB.out.1 HB.out.2 4 (by decide) (by omega)).mono ?_
  rintro e w7 ⟨rfl, hR, hg⟩
  have H7 := Lib.hid (And.intro (HK.out.1.out hg hS) hR)
  clear hR hg HK
  have hm16 : fd l (33 + n * 27) 4 < 16 := fd_lt l _ 4
  obtain ⟨m, hm⟩ : ∃ m, fd l (33 + n * 27) 4 = m := ⟨_, rfl⟩
  rw [hm]
  have hm15 : m ≤ 15 := by omega
  have HM := Lib.hid (show nCm l = m by unfold nCm aCm; rw [HN.out]; exact hm)
  clear hm hm16
  obtain ⟨P, hP⟩ : ∃ P, 33 + n * 27 + 4 = P := ⟨_, rfl⟩
  have hP2 : P ≤ 900 := by omega
  have HP := Lib.hid (show aCm l + 4 = P by unfold aCm; rw [HN.out]; exact hP)
  rw [hP] at H7
  clear hP
  go_upto_block 2 with fail
  go_cut [] from 31 to 46 (fun wx => ∃ vC, Hid (AG w w.heap.size B r q cp vL vC vL vC (rdL l n) (rdC l P m) wx ∧ RN w S l p c (P + m * 14) wx))
  case first =>
    go_wp2_with fail
    go_loopw [31] (fun i wr => ∃ k : Nat, k ≤ m ∧ i = .int .i64 (k : Int) ∧ ∃ vC, Hid (AG w w.heap.size B r q cp vL vC vL vC (rdL l n) (rdC l P k) wr ∧ RN w S l p c (P + k * 14) wr)) (fun i _ => m - (RowKit.intOf i).toNat)
    case atStart => exact ⟨0, Nat.zero_le _, rfl, _, by rw [Nat.zero_mul]; exact H7⟩
    case round =>
      obtain ⟨k, hk, rfl, vC, HK⟩ := hrel
      clear H7
      by_cases hlt : k < m
      · go_upto_region 8 with fail
        have HD := Lib.hid (And.intro (HK.out.1.keep (grown_drew (grown_refl wr none))) (HK.out.2.keep (grown_drew (grown_refl wr none))))
        have hp33 : P + k * 14 ≤ 2000 := by omega
        obtain ⟨X, hX⟩ : ∃ X : Int, X = ((8 * 2 ^ fd l (P + k * 14 + 3 + 9) 2 : Nat) : Int) := ⟨_, rfl⟩
        have HX := Lib.hid hX
        clear hX
        clear HK
        refine region_until (S := fun w' => Hid (w'.heap[B]? = some (.cells #[.int .i64 r, .int .i64 q, .bool cp, vL, vC] 26 (0, 0)))) (fun j => j == 11 || j == 12 || j == 13) (by kernel_rfl) (Lib.hid HD.out.1.ab) (fun hHeld => ?_)
        refine anyU_take (i := 0) (oi := { dst := some 33, op := Op.fieldAddr 26 (Operand.tmp 3) 4, type := 0, pos := "advert.go:244", after := #[], guard := none }) (v := ?_) rfl (by kernel_rfl) (by kernel_rfl) (by kernel_rfl) (by kernel_rfl) (by kernel_rfl) (fun _ _ _ h => h) (Or.inl ⟨by rfl, ?_⟩) hHeld ?_
        rotate_left 1
        · intro u hSu
          have q0 := (cell_of_row _ _ 4 _ _ _ hSu.out)
          go_simp
          first | done | with_reducible rfl
        (try simp only [Act.put, List.setIfInBounds_toArray, List.set_cons_zero, List.set_cons_succ])
        refine anyU_take (i := 1) (oi := { dst := some 34, op := Op.load 24 (Operand.tmp 33), type := 24, pos := "advert.go:244", after := #[{ on := 0, ground := Ground.data }], guard := none }) (v := ?_) rfl (by kernel_rfl) (by kernel_rfl) (by kernel_rfl) (by kernel_rfl) (by kernel_rfl) (fun _ _ _ h => h) (Or.inl ⟨by rfl, ?_⟩) hHeld ?_
        rotate_left 1
        · intro u hSu
          have q0 := (cell_of_row _ _ 4 _ _ _ hSu.out)
          go_simp
          first | done | with_reducible rfl
        (try simp only [Act.put, List.setIfInBounds_toArray, List.set_cons_zero, List.set_cons_succ])
        refine anyU_take (i := 2) (oi := { dst := some 35, op := Op.move (Operand.tmp 0), type := 112, pos := "advert.go:244", after := #[], guard := none }) (v := ?_) rfl (by kernel_rfl) (by kernel_rfl) (by kernel_rfl) (by kernel_rfl) (by kernel_rfl) (fun _ _ _ h => h) (Or.inl ⟨by rfl, ?_⟩) hHeld ?_
        rotate_left 1
        · intro u hSu
          have q0 := (cell_of_row _ _ 4 _ _ _ hSu.out)
          go_simp
          first | done | with_reducible rfl
        (try simp only [Act.put, List.setIfInBounds_toArray, List.set_cons_zero, List.set_cons_succ])
        refine anyU_take (i := 4) (oi := { dst := some 37, op := Op.move (Operand.tmp 0), type := 112, pos := "advert.go:244", after := #[], guard := none }) (v := ?_) rfl (by kernel_rfl) (by kernel_rfl) (by kernel_rfl) (by kernel_rfl) (by kernel_rfl) (fun _ _ _ h => h) (Or.inl ⟨by rfl, ?_⟩) hHeld ?_
        rotate_left 1
        · intro u hSu
          have q0 := (cell_of_row _ _ 4 _ _ _ hSu.out)
          go_simp
          first | done | with_reducible rfl
        (try simp only [Act.put, List.setIfInBounds_toArray, List.set_cons_zero, List.set_cons_succ])
        refine anyU_take (i := 6) (oi := { dst := some 39, op := Op.move (Operand.tmp 0), type := 112, pos := "advert.go:244", after := #[], guard := none }) (v := ?_) rfl (by kernel_rfl) (by kernel_rfl) (by kernel_rfl) (by kernel_rfl) (by kernel_rfl) (fun _ _ _ h => h) (Or.inl ⟨by rfl, ?_⟩) hHeld ?_
        rotate_left 1
        · intro u hSu
          have q0 := (cell_of_row _ _ 4 _ _ _ hSu.out)
          go_simp
          first | done | with_reducible rfl
        (try simp only [Act.put, List.setIfInBounds_toArray, List.set_cons_zero, List.set_cons_succ])
        refine anyU_ready (rs := [3]) (by kernel_rfl) (by simp) ?_
        refine EachU.cons (o := { dst := some 36, op := Op.call { callee := Callee.value (Operand.func 52), args := #[Operand.tmp 35, Operand.const (Value.int IntKind.i64 3)], argTypes := #[112, 3] }, type := 3, pos := "advert.go:244", after := #[{ on := 2, ground := Ground.data }], guard := none }) rfl (fun Kz hK => ?_) EachU.nil
        go_simp
        go_at_call 52
        refine (HD.out.2.take HB.out.1 HB.out.2 3 (by decide) (by omega)).mono ?_
        rintro e w5 ⟨rfl, hR, hg⟩
        have HDn := Lib.hid (And.intro (HD.out.1.out hg hR.lt) hR)
        clear hR hg HD
        have HD := HDn
        clear HDn
        refine hK.out _ _ (fun _ => Lib.hid HD.out.1.ab) (fun hH2 => ?_)
        clear hK Kz hHeld
        have hHeld := hH2 rfl
        clear hH2
        (try simp only [Act.put, List.setIfInBounds_toArray, List.set_cons_zero, List.set_cons_succ])
        refine anyU_ready (rs := [5]) (by kernel_rfl) (by simp) ?_
        refine EachU.cons (o := { dst := some 38, op := Op.call { callee := Callee.value (Operand.func 52), args := #[Operand.tmp 37, Operand.const (Value.int IntKind.i64 9)], argTypes := #[112, 3] }, type := 3, pos := "advert.go:244", after := #[{ on := 4, ground := Ground.data }, { on := 3, ground := Ground.chain }], guard := none }) rfl (fun Kz hK => ?_) EachU.nil
        go_simp
        go_at_call 52
        refine (HD.out.2.take HB.out.1 HB.out.2 9 (by decide) (by omega)).mono ?_
        rintro e w5 ⟨rfl, hR, hg⟩
        have HDn := Lib.hid (And.intro (HD.out.1.out hg hR.lt) hR)
        clear hR hg HD
        have HD := HDn
        clear HDn
        refine hK.out _ _ (fun _ => Lib.hid HD.out.1.ab) (fun hH2 => ?_)
        clear hK Kz hHeld
        have hHeld := hH2 rfl
        clear hH2
        (try simp only [Act.put, List.setIfInBounds_toArray, List.set_cons_zero, List.set_cons_succ])
        refine anyU_ready (rs := [7]) (by kernel_rfl) (by simp) ?_
        refine EachU.cons (o := { dst := some 40, op := Op.call { callee := Callee.value (Operand.func 52), args := #[Operand.tmp 39, Operand.const (Value.int IntKind.i64 2)], argTypes := #[112, 3] }, type := 3, pos := "advert.go:244", after := #[{ on := 6, ground := Ground.data }, { on := 5, ground := Ground.chain }], guard := none }) rfl (fun Kz hK => ?_) EachU.nil
        go_simp
        go_at_call 52
        refine (HD.out.2.take HB.out.1 HB.out.2 2 (by decide) (by omega)).mono ?_
        rintro e w5 ⟨rfl, hR, hg⟩
        have HDn := Lib.hid (And.intro (HD.out.1.out hg hR.lt) hR)
        clear hR hg HD
        have HD := HDn
        clear HDn
        refine hK.out _ _ (fun _ => Lib.hid HD.out.1.ab) (fun hH2 => ?_)
        clear hK Kz hHeld
        have hHeld := hH2 rfl
        clear hH2
        (try simp only [Act.put, List.setIfInBounds_toArray, List.set_cons_zero, List.set_cons_succ])
        refine anyU_take (i := 8) (oi := { dst := some 41, op := Op.binOp BinOp.shl 3 (Operand.const (Value.int IntKind.i64 8)) (Operand.tmp 40) 3, type := 3, pos := "advert.go:244", after := #[{ on := 7, ground := Ground.data }], guard := none }) (v := .int .i64 X) rfl (by kernel_rfl) (by kernel_rfl) (by kernel_rfl) (by kernel_rfl) (by kernel_rfl) (fun _ _ _ h => h) (Or.inl ⟨by rfl, ?_⟩) hHeld ?_
        · intro u hSu
          have q0 := (cell_of_row _ _ 4 _ _ _ hSu.out)
          clear q0 hSu
          rw [HX.out]
          have hx4 : fd l (P + k * 14 + 3 + 9) 2 < 4 := fd_lt l _ 2
          generalize fd l (P + k * 14 + 3 + 9) 2 = x at hx4 ⊢
          rcases (show x = 0 ∨ x = 1 ∨ x = 2 ∨ x = 3 by omega) with rfl | rfl | rfl | rfl <;> (go_simp; rfl)
        (try simp only [Act.put, List.setIfInBounds_toArray, List.set_cons_zero, List.set_cons_succ])
        refine anyU_take (i := 9) (oi := { dst := some 42, op := Op.build 73 #[(0, Operand.tmp 36), (1, Operand.tmp 38), (2, Operand.tmp 41)], type := 73, pos := "advert.go:244", after := #[{ on := 3, ground := Ground.data }, { on := 5, ground := Ground.data }, { on := 8, ground := Ground.data }], guard := none }) (v := ?_) rfl (by kernel_rfl) (by kernel_rfl) (by kernel_rfl) (by kernel_rfl) (by kernel_rfl) (fun _ _ _ h => h) (Or.inl ⟨by rfl, ?_⟩) hHeld ?_
        rotate_left 1
        · intro u hSu
          have q0 := (cell_of_row _ _ 4 _ _ _ hSu.out)
          go_simp
          first | done | with_reducible rfl
        (try simp only [Act.put, List.setIfInBounds_toArray, List.set_cons_zero, List.set_cons_succ])
        refine anyU_ready (rs := [10]) (by kernel_rfl) (by simp) ?_
        refine EachU.cons (o := { dst := some 43, op := Op.buildSlice 24 1 #[(0, Operand.tmp 42)], type := 24, pos := "advert.go:244", after := #[{ on := 9, ground := Ground.data }], guard := none }) rfl (fun Kz hK => ?_) EachU.nil
        go_simp
        have HDn := Lib.hid (And.intro (HD.out.1.keep (World.grownBy_alloc _ (.cells #[.int .i64 ((fd l (P + k * 14) 3 : Nat) : Int), .int .i64 ((fd l (P + k * 14 + 3) 9 : Nat) : Int), .int .i64 X] 73) none)) (HD.out.2.keep (World.grownBy_alloc _ (.cells #[.int .i64 ((fd l (P + k * 14) 3 : Nat) : Int), .int .i64 ((fd l (P + k * 14 + 3) 9 : Nat) : Int), .int .i64 X] 73) none)))
        clear HD
        have HD := HDn
        clear HDn
        refine hK.out _ _ (fun _ => Lib.hid HD.out.1.ab) (fun hH2 => ?_)
        clear hK Kz hHeld
        have hHeld := hH2 rfl
        clear hH2
        (try simp only [Act.put, List.setIfInBounds_toArray, List.set_cons_zero, List.set_cons_succ])
        refine anyU_ready (rs := [11]) (by kernel_rfl) (by simp) ?_
        refine EachU.cons (o := { dst := some 44, op := Op.call { callee := Callee.builtin Builtin.append, args := #[Operand.tmp 34, Operand.tmp 43], argTypes := #[24, 24] }, type := 24, pos := "advert.go:244", after := #[{ on := 1, ground := Ground.data }, { on := 10, ground := Ground.data }, { on := 7, ground := Ground.chain }], guard := none }) rfl (fun Kz hK => ?_) EachU.nil
        refine (astep_app t3C 3 24 (by decide) (fun _ => rfl) t3_one 73 24 ic _ Tryd.underlying24 hic hc0 hc1 hc2 rfl (by decide) (by rfl) _ _ (by rfl) (B + 1) vC (rdC l P k) (by rfl) HD.out.1.oC (some ⟨_, 0, none⟩) 1 1 [⟨((fd l (P + k * 14) 3 : Nat) : Int), ((fd l (P + k * 14 + 3) 9 : Nat) : Int), X⟩] (by rfl) rfl (by simp) (fun _ => True) (rdf_one _ trivial (cells3 _ _ _ _ _) 1) (by omega) (by rw [rdC_len]; simp; omega) (by have := HD.out.1.sz; omega) ?_)
        intro p4 c4 w8 hown hg hat
        have HD5 := Lib.hid (And.intro (HD.out.1.addC (M := rdC l P k ++ [⟨((fd l (P + k * 14) 3 : Nat) : Int), ((fd l (P + k * 14 + 3) 9 : Nat) : Int), X⟩]) hown hg hat) (HD.out.2.row hg (fun b hb => by have := HD.out.1.geC b hb; have := HD.out.1.lo; omega)))
        rw [← (show rdC l P (k + 1) = rdC l P k ++ [⟨((fd l (P + k * 14) 3 : Nat) : Int), ((fd l (P + k * 14 + 3) 9 : Nat) : Int), X⟩] by rw [rdC_succ, HX.out])] at HD5
        obtain ⟨c90, c91, c92, c93, c94⟩ := HD5.out.1.cells
        have fB := frozen_of_row _ _ 4 _ _ HD5.out.1.ab
        clear hown hg hat HD
        refine hK.out _ _ (fun h => by cases h) (fun _ => ?_)
        clear hK Kz
        (try simp only [Act.put, List.setIfInBounds_toArray, List.set_cons_zero, List.set_cons_succ])
        refine anyU_ready (rs := [12]) (by kernel_rfl) (by simp) ?_
        refine EachU.cons (o := { dst := some 45, op := Op.fieldAddr 26 (Operand.tmp 3) 4, type := 0, pos := "advert.go:244", after := #[{ on := 0, ground := Ground.phase }, { on := 1, ground := Ground.phase }, { on := 2, ground := Ground.phase }, { on := 3, ground := Ground.phase }, { on := 4, ground := Ground.phase }, { on := 5, ground := Ground.phase }, { on := 6, ground := Ground.phase }, { on := 7, ground := Ground.phase }, { on := 8, ground := Ground.phase }, { on := 9, ground := Ground.phase }, { on := 10, ground := Ground.phase }, { on := 11, ground := Ground.phase }], guard := none }) rfl (fun Kz hK => ?_) EachU.nil
        go_simp
        refine hK.out _ _ (fun h => by cases h) (fun _ => ?_)
        clear hK Kz
        (try simp only [Act.put, List.setIfInBounds_toArray, List.set_cons_zero, List.set_cons_succ])
        refine anyU_ready (rs := [13]) (by kernel_rfl) (by simp) ?_
        refine EachU.cons (o := { dst := none, op := Op.store 24 (Operand.tmp 45) (Operand.tmp 44), type := 0, pos := "advert.go:244", after := #[{ on := 12, ground := Ground.data }, { on := 11, ground := Ground.data }, { on := 11, ground := Ground.chain }, { on := 0, ground := Ground.phase }, { on := 1, ground := Ground.phase }, { on := 2, ground := Ground.phase }, { on := 3, ground := Ground.phase }, { on := 4, ground := Ground.phase }, { on := 5, ground := Ground.phase }, { on := 6, ground := Ground.phase }, { on := 7, ground := Ground.phase }, { on := 8, ground := Ground.phase }, { on := 9, ground := Ground.phase }, { on := 10, ground := Ground.phase }, { on := 11, ground := Ground.phase }], guard := none }) rfl (fun Kz hK => ?_) EachU.nil
        go_simp
        refine hK.out _ _ (fun h => by cases h) (fun _ => ?_)
        clear hK Kz
        (try simp only [Act.put, List.setIfInBounds_toArray, List.set_cons_zero, List.set_cons_succ])
        refine anyU_done (by kernel_rfl) ?_ _
        have HN := Lib.hid (ar_putC HD5.out)
        clear HD5 hHeld c90 c91 c92 c93 c94 fB
        go_wp2_with fail
        exact ⟨⟨k + 1, by omega, congrArg _ (by omega), _, by rw [show P + (k + 1) * 14 = P + k * 14 + 3 + 9 + 2 by omega]; exact HN⟩, by simp only [RowKit.intOf]; omega⟩
      · obtain rfl : k = m := by omega
        go_wp2_with fail
        go_meet
        exact ⟨vC, HK⟩
  case rest =>
  obtain ⟨vC, HK⟩ := hcut
  clear H7
  obtain ⟨pL, cL, rfl, -, -⟩ := own_shape HK.out.1.oL
  obtain ⟨pC, cC, rfl, -, -⟩ := own_shape HK.out.1.oC
  have HO := Lib.hid (HK.out.1.ok rfl rfl)
  obtain ⟨c0, c1, c2, c3, c4⟩ := HK.out.1.cells
  obtain ⟨d0, d1, d2, d3, d4⟩ := row5 HK.out.1.zb
  have hlo := HK.out.1.lo
  have f0 := frozen_of_row _ _ 0 _ _ HK.out.1.zb
  have f1 := frozen_of_row _ _ 1 _ _ HK.out.1.zb
  have f2 := frozen_of_row _ _ 2 _ _ HK.out.1.zb
  have f3 := frozen_of_row _ _ 3 _ _ HK.out.1.zb
  have f4 := frozen_of_row _ _ 4 _ _ HK.out.1.zb
  obtain ⟨t1, t2⟩ := store5 (.int .i64 r) (.int .i64 q) (.bool cp) (.slice pL (rdL l n).length cL) (.slice pC (rdC l P m).length cC) HK.out.1.zb
  have HT := Lib.hid (And.intro t1 (And.intro (HO.out.grown t2 (fun b hb e => by have := Option.some.inj e; omega)) (HK.out.2.new t2 (Nat.le_refl _))))
  clear t1 t2 HK HO
  go_wp2_with fail
  refine bodyPost_ret (res_adv rfl _ _ w.heap.size _ _ _ _ _ rfl HT.out.1) rfl ?_
  refine ⟨⟨r, q, cp, rdL l n, rdC l P m, pL, cL, pC, cC⟩, rfl, ⟨HE.out.1.symm, HE.out.2.1.symm, ?_, ?_, ?_⟩, HT.out.2.1.mono (fun b hb => by omega), ?_⟩
  · have h := HE.out.2.2
    show cp = _
    rw [← h]
    rcases (show fd l 27 1 = 0 ∨ fd l 27 1 = 1 by have := fd_lt l 27 1; omega) with e | e <;> rw [e] <;> rfl
  · show rdL l n = _
    rw [HN.out]
  · show rdC l P m = _
    rw [HM.out, HP.out]
  · have h := HT.out.2.2
    unfold eCm
    rw [HM.out, HP.out]
    exact h
end Go.Proofs.YtpoocenooomghaaDoor

/- While the tape makes an advert. -/
namespace Go.Proofs.YtpoocenooomghaaDoor
open Go.RowKit Bs
/-! What a list of the tape's keeps. -/
def GL (r b : Int) (L : List T3) : Prop := vRe r 0 L = true ∧ ∀ x ∈ L, x.a < b
def GC (b : Int) (C : List T3) : Prop := vCm (-1) C = true ∧ ∀ x ∈ C, x.a < b
set_option maxRecDepth 100000 in
theorem vRe_snoc {r : Int} {y : T3} (hy : y.a ≤ 99 ∧ y.a ≠ r ∧ (1 ≤ y.b ∧ y.b ≤ 1000) ∧ 0 ≤ y.c ∧ y.c ≤ 1000) : ∀ {L : List T3} {d : Int}, vRe r d L = true → (∀ x ∈ L, x.a < y.a) → d < y.a → vRe r d (L ++ [y]) = true
  | [], d, _, _, hd => by
    rw [List.nil_append, vRe, vRe, Bool.and_true]
    exact decide_eq_true ⟨hd, hy⟩
  | x :: t, d, h, hx, hd => by
    rw [List.cons_append, vRe, Bool.and_eq_true]
    rw [vRe, Bool.and_eq_true] at h
    exact ⟨h.1, vRe_snoc hy h.2 (fun z hz => hx z (List.mem_cons_of_mem _ hz)) (hx x List.mem_cons_self)⟩
set_option maxRecDepth 100000 in
theorem vCm_snoc {y : T3} (hy : y.a ≤ 7 ∧ (1 ≤ y.b ∧ y.b ≤ 256) ∧ (y.c = 8 ∨ y.c = 16 ∨ y.c = 32 ∨ y.c = 64)) : ∀ {L : List T3} {d : Int}, vCm d L = true → (∀ x ∈ L, x.a < y.a) → d < y.a → vCm d (L ++ [y]) = true
  | [], d, _, _, hd => by
    rw [List.nil_append, vCm, vCm, Bool.and_true]
    exact decide_eq_true ⟨hd, hy⟩
  | x :: t, d, h, hx, hd => by
    rw [List.cons_append, vCm, Bool.and_eq_true]
    rw [vCm, Bool.and_eq_true] at h
    exact ⟨h.1, vCm_snoc hy h.2 (fun z hz => hx z (List.mem_cons_of_mem _ hz)) (hx x List.mem_cons_self)⟩
set_option maxRecDepth 100000 in
theorem GL.nil (r b : Int) : GL r b [] := ⟨rfl, fun _ h => by cases h⟩
set_option maxRecDepth 100000 in
theorem GC.nil (b : Int) : GC b [] := ⟨rfl, fun _ h => by cases h⟩
set_option maxRecDepth 100000 in
theorem GL.next {r b : Int} {L : List T3} (h : GL r b L) : GL r (b + 1) L := ⟨h.1, fun x hx => by have := h.2 x hx; omega⟩
set_option maxRecDepth 100000 in
theorem GC.next {b : Int} {L : List T3} (h : GC b L) : GC (b + 1) L := ⟨h.1, fun x hx => by have := h.2 x hx; omega⟩
set_option maxRecDepth 100000 in
theorem GL.add {r b : Int} {L : List T3} (h : GL r b L) (y2 y3 : Int) (hb : 0 < b ∧ b ≤ 99) (hr : b ≠ r) (h2 : 1 ≤ y2 ∧ y2 ≤ 1000) (h3 : 0 ≤ y3 ∧ y3 ≤ 1000) : GL r (b + 1) (L ++ [⟨b, y2, y3⟩]) := by
  refine ⟨vRe_snoc ⟨hb.2, hr, h2, h3⟩ h.1 h.2 hb.1, fun x hx => ?_⟩
  rcases List.mem_append.1 hx with hx | hx
  · have := h.2 x hx; omega
  · rw [List.mem_singleton] at hx
    subst hx
    simp only
    omega
set_option maxRecDepth 100000 in
theorem GC.add {b : Int} {L : List T3} (h : GC b L) (y2 y3 : Int) (hb : -1 < b ∧ b ≤ 7) (h2 : 1 ≤ y2 ∧ y2 ≤ 256) (h3 : y3 = 8 ∨ y3 = 16 ∨ y3 = 32 ∨ y3 = 64) : GC (b + 1) (L ++ [⟨b, y2, y3⟩]) := by
  refine ⟨vCm_snoc ⟨hb.2, h2, h3⟩ h.1 h.2 hb.1, fun x hx => ?_⟩
  rcases List.mem_append.1 hx with hx | hx
  · have := h.2 x hx; omega
  · rw [List.mem_singleton] at hx
    subst hx
    simp only
    omega
/-- While the tape makes an advert. -/
structure AT (a : Nat) (W : World) (Z B : Nat) (r q : Int) (cp : Bool) (uL uC vL vC : Value) (L C : List T3) (w : World) : Prop where
  g : AG W Z B r q cp uL uC vL vC L C w
  st : St a W w
set_option maxRecDepth 100000 in
theorem St.newA {a b : Nat} {W w w1 : World} (h : St a W w) (g : w.grownBy w1 (some b)) (hb : W.heap.size ≤ b) (ha : a < W.heap.size) : St a W w1 := by
  refine ⟨⟨g.os.trans h.1.os, g.tape.trans h.1.tape, g.output.trans h.1.output, Nat.le_trans h.1.size g.size, fun i hi hia => (g.block i (Nat.lt_of_lt_of_le hi h.1.size) (fun e => by have := Option.some.inj e; omega)).trans (h.1.block i hi hia)⟩, ?_⟩
  obtain ⟨v, n, i, T⟩ := h.2
  have hlt : a < w.heap.size := Nat.lt_of_lt_of_le ha h.1.size
  have hk : w1.heap[a]? = w.heap[a]? := g.block a hlt (fun e => by have := Option.some.inj e; omega)
  refine ⟨v, n, i, (World.cell?_of_block (a := ⟨a, 0, none⟩) hk).trans T.l, (World.cell?_of_block (a := ⟨a, 1, none⟩) hk).trans T.p, (World.frozen?_of_block (a := ⟨a, 1, none⟩) hk).trans T.fr, ?_, T.le, T.len⟩
  obtain ⟨p, c, hv, hc⟩ := T.ints
  refine ⟨p, c, hv, fun hn => ?_⟩
  obtain ⟨b1, off, hp, hb1, hx⟩ := hc hn
  refine ⟨b1, off, hp, hb1, fun i hi => ?_⟩
  obtain ⟨x, hx1, hcell⟩ := hx i hi
  exact ⟨x, hx1, g.cell hcell (fun e => by have : b1 = b := Option.some.inj e; omega)⟩
section
variable {a : Nat} {W w w1 : World} {Z B : Nat} {r q : Int} {cp : Bool} {uL uC vL vC v' : Value} {L C : List T3}
set_option maxRecDepth 100000 in
theorem AT.keep (h : AT a W Z B r q cp uL uC vL vC L C w) (g : w.grownBy w1 none) : AT a W Z B r q cp uL uC vL vC L C w1 := ⟨h.g.keep g, h.st.trans ⟨grown_none g _, h.st.2.keep g⟩⟩
set_option maxRecDepth 100000 in
theorem AT.tape (h : AT a W Z B r q cp uL uC vL vC L C w) (ha : a < W.heap.size) (k : St a w w1) : AT a W Z B r q cp uL uC vL vC L C w1 := ⟨h.g.out k.1 ha, h.st.trans k⟩
set_option maxRecDepth 100000 in
theorem AT.stRow (h : AT a W Z B r q cp uL uC vL vC L C w) (ha : a < W.heap.size) {o : Option Nat} (g : w.grownBy w1 o) (hb : ∀ b, o = some b → W.heap.size ≤ b) : St a W w1 := by
  cases o with
  | none => exact h.st.trans ⟨grown_none g _, h.st.2.keep g⟩
  | some b => exact h.st.newA g (hb b rfl) ha
set_option maxRecDepth 100000 in
theorem AT.addL (h : AT a W Z B r q cp uL uC vL vC L C w) (ha : a < W.heap.size) {M : List T3} (hown : w1.ownsRow (B + 1) 70 3 v' M.length (M.flatMap t3C)) (hg : w.grownBy w1 vL.ownBlock) (hat : v'.ownBlock = vL.ownBlock ∨ v'.ownBlock = some w.heap.size) : AT a W Z B r q cp uL uC v' vC M C w1 :=
  ⟨h.g.addL hown hg hat, h.stRow ha hg (fun b hb => by have := h.g.geL b hb; have := h.g.lo; omega)⟩
set_option maxRecDepth 100000 in
theorem AT.addC (h : AT a W Z B r q cp uL uC vL vC L C w) (ha : a < W.heap.size) {M : List T3} (hown : w1.ownsRow (B + 1) 73 3 v' M.length (M.flatMap t3C)) (hg : w.grownBy w1 vC.ownBlock) (hat : v'.ownBlock = vC.ownBlock ∨ v'.ownBlock = some w.heap.size) : AT a W Z B r q cp uL uC vL v' L M w1 :=
  ⟨h.g.addC hown hg hat, h.stRow ha hg (fun b hb => by have := h.g.geC b hb; have := h.g.lo; omega)⟩
set_option maxRecDepth 100000 in
theorem AT.putL (h : AT a W Z B r q cp uL uC vL vC L C w) (ha : a < W.heap.size) : AT a W Z B r q cp vL uC vL vC L C (w.setCell ⟨B, 3, none⟩ vL) :=
  ⟨h.g.putL, h.st.newA (grown_setCell w ⟨B, 3, none⟩ vL) (by have := h.g.lo; show W.heap.size ≤ B; omega) ha⟩
set_option maxRecDepth 100000 in
theorem AT.putC (h : AT a W Z B r q cp uL uC vL vC L C w) (ha : a < W.heap.size) : AT a W Z B r q cp uL vC vL vC L C (w.setCell ⟨B, 4, none⟩ vC) :=
  ⟨h.g.putC, h.st.newA (grown_setCell w ⟨B, 4, none⟩ vC) (by have := h.g.lo; show W.heap.size ≤ B; omega) ha⟩
set_option maxRecDepth 100000 in
theorem AG.put0 (h : AG W Z B r q cp uL uC vL vC L C w) (x : Int) : AG W Z B x q cp uL uC vL vC L C (w.setCell ⟨B, 0, none⟩ (.int .i64 x)) := by
  have g := grown_setCell w ⟨B, 0, none⟩ (.int .i64 x)
  have hlo := h.lo
  refine ⟨kept_row h.zb g (fun e => by have : Z = B := Option.some.inj e; omega), ?_, own_otherA h.oL g (Nat.lt_succ_self _), own_otherA h.oC g (Nat.lt_succ_self _), h.ap, h.lo, Nat.lt_of_lt_of_le h.sz g.size⟩
  have h1 := heap_setCell_same w B 0 _ _ (.int .i64 x) h.ab
  rw [h1]; rfl
set_option maxRecDepth 100000 in
theorem AG.put1 (h : AG W Z B r q cp uL uC vL vC L C w) (x : Int) : AG W Z B r x cp uL uC vL vC L C (w.setCell ⟨B, 1, none⟩ (.int .i64 x)) := by
  have g := grown_setCell w ⟨B, 1, none⟩ (.int .i64 x)
  have hlo := h.lo
  refine ⟨kept_row h.zb g (fun e => by have : Z = B := Option.some.inj e; omega), ?_, own_otherA h.oL g (Nat.lt_succ_self _), own_otherA h.oC g (Nat.lt_succ_self _), h.ap, h.lo, Nat.lt_of_lt_of_le h.sz g.size⟩
  have h1 := heap_setCell_same w B 1 _ _ (.int .i64 x) h.ab
  rw [h1]; rfl
set_option maxRecDepth 100000 in
theorem AT.put0 (h : AT a W Z B r q cp uL uC vL vC L C w) (ha : a < W.heap.size) (x : Int) : AT a W Z B x q cp uL uC vL vC L C (w.setCell ⟨B, 0, none⟩ (.int .i64 x)) :=
  ⟨h.g.put0 x, h.st.newA (grown_setCell w ⟨B, 0, none⟩ (.int .i64 x)) (by have := h.g.lo; show W.heap.size ≤ B; omega) ha⟩
set_option maxRecDepth 100000 in
theorem AT.put1 (h : AT a W Z B r q cp uL uC vL vC L C w) (ha : a < W.heap.size) (x : Int) : AT a W Z B r x cp uL uC vL vC L C (w.setCell ⟨B, 1, none⟩ (.int .i64 x)) :=
  ⟨h.g.put1 x, h.st.newA (grown_setCell w ⟨B, 1, none⟩ (.int .i64 x)) (by have := h.g.lo; show W.heap.size ≤ B; omega) ha⟩
end
set_option maxRecDepth 100000 in
theorem own_formA {w : World} {base size n : Nat} {e : TypeId} {v : Value} {xs : List Value} (h : w.ownsRow base e size v n xs) : (v = .slice none 0 0 ∧ n = 0) ∨ ∃ g cap, v = .slice (some ⟨g, 0, none⟩) n cap ∧ n ≤ cap ∧ cap ≤ 9223372036854775807 := by
  rcases h.2 with ⟨rfl, h0⟩ | ⟨g, cap, cur, rfl, _, _, hn, hm, _⟩
  · exact .inl ⟨rfl, h0⟩
  · unfold maxLen at hm
    exact .inr ⟨g, cap, rfl, hn, by omega⟩
set_option maxRecDepth 100000 in
theorem AG.set0 {W w : World} {Z B g n cap : Nat} {r q : Int} {cp : Bool} {uL uC vC : Value} {L C : List T3} (h : AG W Z B r q cp uL uC (.slice (some ⟨g, 0, none⟩) n cap) vC L C w) (hL : 0 < L.length) (x : Int) :
    ∃ L' : List T3, L'.length = L.length ∧ AG W Z B r q cp uL uC (.slice (some ⟨g, 0, none⟩) n cap) vC L' C (w.setCell ⟨g, 1, none⟩ (.int .i64 x)) := by
  cases L with
  | nil => cases hL
  | cons y t =>
    have hg0 := h.geL g rfl
    have hlo := h.lo
    obtain ⟨p, c, e, _⟩ := own_shape h.oL
    have hn : n = (y :: t).length := by injection e
    subst hn
    obtain ⟨s1, s2⟩ := h.oL.stored 1 (.int .i64 x)
    refine ⟨⟨y.a, x, y.c⟩ :: t, rfl, kept_row h.zb s2 (fun e => by have : Z = g := Option.some.inj e; omega), kept_row h.ab s2 (fun e => by have : B = g := Option.some.inj e; omega), s1, h.oC.kept s2 ?_, h.ap, h.lo, Nat.lt_of_lt_of_le h.sz s2.size⟩
    cases hv : vC.ownBlock with
    | none => exact .inl rfl
    | some k => exact .inr (fun e => h.ap g rfl (by rw [hv]; exact e))
set_option maxRecDepth 100000 in
theorem AT.set0 {a : Nat} {W w : World} {Z B g n cap : Nat} {r q : Int} {cp : Bool} {uL uC vC : Value} {L C : List T3} (h : AT a W Z B r q cp uL uC (.slice (some ⟨g, 0, none⟩) n cap) vC L C w) (ha : a < W.heap.size) (hL : 0 < L.length) (x : Int) :
    ∃ L' : List T3, L'.length = L.length ∧ AT a W Z B r q cp uL uC (.slice (some ⟨g, 0, none⟩) n cap) vC L' C (w.setCell ⟨g, 1, none⟩ (.int .i64 x)) := by
  obtain ⟨L', h1, h2⟩ := h.g.set0 hL x
  have hg0 := h.g.geL g rfl
  have hlo := h.g.lo
  exact ⟨L', h1, h2, h.st.newA (grown_setCell w ⟨g, 1, none⟩ (.int .i64 x)) (by show W.heap.size ≤ g; omega) ha⟩
set_option maxRecDepth 100000 in
theorem AT.ints {a : Nat} {W w : World} {Z B : Nat} {r q : Int} {cp : Bool} {uL uC vL vC : Value} {L C : List T3} (h : AT a W Z B r q cp uL uC vL vC L C w) (xs : List Int) (cs : Array Value) (hx : ∀ x ∈ xs, I64 x) (hcs : cs = (xs.map fun x => Value.int .i64 x).toArray) :
    ∀ p, p = w.heap.size → Among I64 (w.alloc (.cells cs 3)) a p 0 cs.size := by
  rintro p rfl
  exact among_list I64 w a xs cs 3 h.st.2.lt hcs hx
set_option maxRecDepth 100000 in
theorem Among.keepA {P : Int → Prop} {w w' : World} {a b off n : Nat} {r : Option Nat} (h : Among P w a b off n) (g : w.grownBy w' r) (hne : some b ≠ r) : Among P w' a b off n :=
  ⟨h.1, Nat.lt_of_lt_of_le h.2.1 g.size, fun i hi => by obtain ⟨x, hx, hc⟩ := h.2.2 i hi; exact ⟨x, hx, g.cell hc (by exact hne)⟩⟩
/-- What is known of an advert of the tape's. -/
structure TA (R n : Int) (r q : Int) (L C : List T3) : Prop where
  ll : L.length ≤ 40
  cl : C.length ≤ 10
  ok : ¬ 0 < n → r = R ∧ (1 ≤ q ∧ q ≤ 1000000) ∧ L.length ≤ 23 ∧ C.length ≤ 8 ∧ vRe R 0 L = true ∧ vCm (-1) C = true
def TAPost (a : Nat) (R n : Int) (w : World) (e : Ending) (w' : World) : Prop :=
  ∃ A : Ad, e = .returned A.val ∧ TA R n A.r A.q A.L A.C ∧ AdOk w' (w.heap.size ≤ ·) A ∧ St a w w'
set_option maxRecDepth 100000 in
theorem TA.valid {R n : Int} {A : Ad} (h : TA R n A.r A.q A.L A.C) (hn : ¬ 0 < n) (hR : 1 ≤ R ∧ R ≤ 99) : vAd A = true ∧ A.r = R := by
  obtain ⟨h1, h2, h3, h4, h5, h6⟩ := h.ok hn
  refine ⟨?_, h1⟩
  unfold vAd vHd vClaims
  rw [decide_eq_true ⟨h1 ▸ hR, h2, h3⟩, h1, h5, decide_eq_true h4, h6]
  rfl
end Go.Proofs.YtpoocenooomghaaDoor

/- Parts of the proof, packed: AdRdr, PkRest, AdDec. -/
import Derived.Test.YtpoocenooomghaaDoorOf13
import Derived.Deep.RegionHeld3
import Derived.Deep.CutBlock
import Derived.Deep.CutRange
import Derived.Test.YtpoocenooomghaaDoorOf11
import Derived.Test.YtpoocenooomghaaDoorOf8
/- advert: the reader's advert: the fields that the bytes say. -/
namespace Go.Proofs.YtpoocenooomghaaDoor
open Go.RowKit Bs
/-- The fields of an advert are returned; the reader stands behind them. -/
def RdPost (l : List Nat) (p : Option Addr) (c S : Nat) (w : World) (e : Ending) (w' : World) : Prop :=
  ∃ A : Ad, e = .returned A.val ∧ AdIs l A ∧ AdOk w' (w.heap.size ≤ ·) A ∧ RN w S l p c (eCm l) w'
set_option maxRecDepth 100000 in
theorem fd_le (l : List Nat) (p k n : Nat) (h : 2 ^ k ≤ n) : fd l p k < n := Nat.lt_of_lt_of_le (fd_lt l p k) h
set_option maxRecDepth 100000 in
theorem shl8 {x : Nat} (h : x < 4) : (8 : Int) * 2 ^ x = ((8 * 2 ^ x : Nat) : Int) := by
  rcases (show x = 0 ∨ x = 1 ∨ x = 2 ∨ x = 3 by omega) with rfl | rfl | rfl | rfl <;> rfl
set_option maxRecDepth 100000 in
theorem ag_start {W w : World} {Z : Nat} {r q : Int} {cp : Bool} (hz : w.heap[Z]? = some (.cells #[.int .i64 0, .int .i64 0, .bool false, .slice none 0 0, .slice none 0 0] 26 (0, 0))) (h1 : W.heap.size ≤ Z) (h2 : Z < w.heap.size) :
    AG W Z w.heap.size r q cp (.slice none 0 0) (.slice none 0 0) (.slice none 0 0) (.slice none 0 0) [] [] (w.alloc (.cells #[.int .i64 r, .int .i64 q, .bool cp, .slice none 0 0, .slice none 0 0] 26)) := by
  have g := World.grownBy_alloc w (.cells #[.int .i64 r, .int .i64 q, .bool cp, .slice none 0 0, .slice none 0 0] 26) none
  exact ⟨kept_row hz g (by simp), heap_alloc_new w _, World.ownsRow_nil _ _ _ _, World.ownsRow_nil _ _ _ _, fun g hg => (by cases hg), ⟨h1, h2⟩, by simp⟩
set_option maxRecDepth 100000 in
theorem adv_size : (Tryd.prog.info? 26).map (·.size) = some 5 := by kernel_rfl
set_option maxRecDepth 100000 in
theorem res_adv {fn : Func} {p : Tmp} (h : fn.results = #[.cell p 26]) (tmps : Array Value) (w : World) (g : Nat) (x y z u v : Value) (hp : tmps.getD p undef = .pointer (some ⟨g, 0, none⟩)) (hg : w.heap[g]? = some (.cells #[x, y, z, u, v] 26 (0, 0))) :
    (results fn tmps).run Tryd.prog w = .ok (.agg #[x, y, z, u, v]) w :=
  results_cell_row h tmps w g _ _ _ _ hp hg Tryd.underlying26 rfl adv_size
set_option maxRecDepth 100000 in
theorem row5 {w : World} {b : Nat} {t : TypeId} {x0 x1 x2 x3 x4 : Value} (h : w.heap[b]? = some (.cells #[x0, x1, x2, x3, x4] t (0, 0))) :
    w.cell? ⟨b, 0, none⟩ = some x0 ∧ w.cell? ⟨b, 1, none⟩ = some x1 ∧ w.cell? ⟨b, 2, none⟩ = some x2 ∧ w.cell? ⟨b, 3, none⟩ = some x3 ∧ w.cell? ⟨b, 4, none⟩ = some x4 := by
  refine ⟨?_, ?_, ?_, ?_, ?_⟩ <;> (rw [cell_of_row _ _ _ _ _ _ h]; rfl)
set_option maxRecDepth 100000 in
theorem store5 {w : World} {b : Nat} {t : TypeId} {x0 x1 x2 x3 x4 : Value} (u0 u1 u2 u3 u4 : Value) (h : w.heap[b]? = some (.cells #[x0, x1, x2, x3, x4] t (0, 0))) :
    (((((w.setCell ⟨b, 0, none⟩ u0).setCell ⟨b, 1, none⟩ u1).setCell ⟨b, 2, none⟩ u2).setCell ⟨b, 3, none⟩ u3).setCell ⟨b, 4, none⟩ u4).heap[b]? = some (.cells #[u0, u1, u2, u3, u4] t (0, 0)) ∧
    w.grownBy (((((w.setCell ⟨b, 0, none⟩ u0).setCell ⟨b, 1, none⟩ u1).setCell ⟨b, 2, none⟩ u2).setCell ⟨b, 3, none⟩ u3).setCell ⟨b, 4, none⟩ u4) (some b) := by
  have h1 := heap_setCell_same w b 0 _ _ u0 h
  have h2 := heap_setCell_same _ b 1 _ _ u1 h1
  have h3 := heap_setCell_same _ b 2 _ _ u2 h2
  have h4 := heap_setCell_same _ b 3 _ _ u3 h3
  have h5 := heap_setCell_same _ b 4 _ _ u4 h4
  refine ⟨by rw [h5]; rfl, ?_⟩
  have g1 := grown_setCell w ⟨b, 0, none⟩ u0
  have g2 := grown_setCell (w.setCell ⟨b, 0, none⟩ u0) ⟨b, 1, none⟩ u1
  have g3 := grown_setCell ((w.setCell ⟨b, 0, none⟩ u0).setCell ⟨b, 1, none⟩ u1) ⟨b, 2, none⟩ u2
  have g4 := grown_setCell (((w.setCell ⟨b, 0, none⟩ u0).setCell ⟨b, 1, none⟩ u1).setCell ⟨b, 2, none⟩ u2) ⟨b, 3, none⟩ u3
  have g5 := grown_setCell ((((w.setCell ⟨b, 0, none⟩ u0).setCell ⟨b, 1, none⟩ u1).setCell ⟨b, 2, none⟩ u2).setCell ⟨b, 3, none⟩ u3) ⟨b, 4, none⟩ u4
  exact grown_trans (grown_trans (grown_trans (grown_trans g1 g2) g3) g4) g5
set_option maxRecDepth 100000 in
theorem ar_putL {W w : World} {Z B S c pos : Nat} {r q : Int} {cp : Bool} {uL uC vL vC : Value} {L C : List T3} {l : List Nat} {p : Option Addr} (h : AG W Z B r q cp uL uC vL vC L C w ∧ RN W S l p c pos w) :
    AG W Z B r q cp vL uC vL vC L C (w.setCell ⟨B, 3, none⟩ vL) ∧ RN W S l p c pos (w.setCell ⟨B, 3, none⟩ vL) := by
  have := h.1.lo
  exact ⟨h.1.putL, h.2.new (grown_setCell w ⟨B, 3, none⟩ vL) (by show W.heap.size ≤ B; omega)⟩
set_option maxRecDepth 100000 in
theorem ar_putC {W w : World} {Z B S c pos : Nat} {r q : Int} {cp : Bool} {uL uC vL vC : Value} {L C : List T3} {l : List Nat} {p : Option Addr} (h : AG W Z B r q cp uL uC vL vC L C w ∧ RN W S l p c pos w) :
    AG W Z B r q cp uL vC vL vC L C (w.setCell ⟨B, 4, none⟩ vC) ∧ RN W S l p c pos (w.setCell ⟨B, 4, none⟩ vC) := by
  have := h.1.lo
  exact ⟨h.1.putC, h.2.new (grown_setCell w ⟨B, 4, none⟩ vC) (by show W.heap.size ≤ B; omega)⟩
set_option maxRecDepth 100000 in
set_option maxHeartbeats 6400000 in
theorem ardr_any (l : List Nat) (hl : By l) (h1 : l.length ≤ 1024) (S : Nat) (p : Option Addr) (c : Nat) (w : World) (hR : RN w S l p c 0 w) :
    Calls Tryd.prog 50 #[.pointer (some ⟨S, 0, none⟩)] w fun e w' => RdPost l p c S w e w' := by
  obtain ⟨ir, hir, hr0, hr1, hr2⟩ := info_parts info_re
  obtain ⟨ic, hic, hc0, hc1, hc2⟩ := info_parts info_cm
  have HB := Lib.hid (And.intro hl h1)
  have kz := heap_alloc_new w (.cells #[.int .i64 0, .int .i64 0, .bool false, .slice none 0 0, .slice none 0 0] 26)
  have kg := World.grownBy_alloc w (.cells #[.int .i64 0, .int .i64 0, .bool false, .slice none 0 0, .slice none 0 0] 26) none
  have hS := hR.lt
  have H0 := Lib.hid (And.intro kz (hR.keep kg))
  have HZ : Hid (w.heap.size < (w.alloc (.cells #[.int .i64 0, .int .i64 0, .bool false, .slice none 0 0, .slice none 0 0] 26)).heap.size) := Lib.hid (by simp)
  clear kz kg hR hl h1
  go_enter Tryd.func50, Tryd.ntmps50
  go_upto_region 1 with fail
  generalize w.alloc _ = wa at *
  go_wp2_with fail
  refine (H0.out.2.take HB.out.1 HB.out.2 7 (by decide) (by omega)).mono ?_
  rintro e w1 ⟨rfl, hR, hg⟩
  have H1 := Lib.hid (And.intro (kept_row H0.out.1 hg (fun e => by have := Option.some.inj e; omega)) (And.intro hR (Nat.lt_of_lt_of_le HZ.out hg.size)))
  clear hR hg H0 HZ
  go_wp2_with fail
  refine (H1.out.2.1.take HB.out.1 HB.out.2 20 (by decide) (by omega)).mono ?_
  rintro e w2 ⟨rfl, hR, hg⟩
  have H2 := Lib.hid (And.intro (kept_row H1.out.1 hg (fun e => by have := Option.some.inj e; omega)) (And.intro hR (Nat.lt_of_lt_of_le H1.out.2.2 hg.size)))
  clear hR hg H1
  go_wp2_with fail
  refine (H2.out.2.1.take HB.out.1 HB.out.2 1 (by decide) (by omega)).mono ?_
  rintro e w3 ⟨rfl, hR, hg⟩
  have H3 := Lib.hid (And.intro (kept_row H2.out.1 hg (fun e => by have := Option.some.inj e; omega)) (And.intro hR (Nat.lt_of_lt_of_le H2.out.2.2 hg.size)))
  clear hR hg H2
  have H4 := Lib.hid (And.intro (ag_start (W := w) (r := ((fd l 0 7 : Nat) : Int)) (q := ((fd l 7 20 : Nat) : Int)) (cp := (((fd l 27 1 : Nat) : Int) == 1)) H3.out.1 (Nat.le_refl _) H3.out.2.2) (H3.out.2.1.keep (World.grownBy_alloc w3 (.cells #[.int .i64 ((fd l 0 7 : Nat) : Int), .int .i64 ((fd l 7 20 : Nat) : Int), .bool (((fd l 27 1 : Nat) : Int) == 1), .slice none 0 0, .slice none 0 0] 26) none)))
  clear H3
  go_upto_region 2 with fail
  generalize w3.alloc _ = w4 at *
  generalize w3.heap.size = B at *
  obtain ⟨r, hr⟩ : ∃ r, ((fd l 0 7 : Nat) : Int) = r := ⟨_, rfl⟩
  obtain ⟨q, hq⟩ : ∃ q, ((fd l 7 20 : Nat) : Int) = q := ⟨_, rfl⟩
  obtain ⟨cp, hcp⟩ : ∃ cp, (((fd l 27 1 : Nat) : Int) == 1) = cp := ⟨_, rfl⟩
  obtain ⟨o1, ho1⟩ : ∃ o, ((fd l 27 1 : Nat) : Int) = o := ⟨_, rfl⟩
  rw [hr, hq, hcp] at H4
  rw [hcp, hr, hq, ho1]
  have HE := Lib.hid (And.intro hr (And.intro hq hcp))
  clear hr hq hcp ho1
  go_wp2_with fail
  refine (H4.out.2.take HB.out.1 HB.out.2 5 (by decide) (by omega)).mono ?_
  rintro e w5 ⟨rfl, hR, hg⟩
  have H5 := Lib.hid (And.intro (H4.out.1.out hg hS) hR)
  clear hR hg H4
  have hn32 : fd l 28 5 < 32 := fd_lt l 28 5
  obtain ⟨n, hn⟩ : ∃ n, fd l (0 + 7 + 20 + 1) 5 = n := ⟨_, rfl⟩
  rw [hn]
  have hn31 : n ≤ 31 := by rw [show 0 + 7 + 20 + 1 = 28 from rfl] at hn; omega
  have HN := Lib.hid (show nLk l = n from hn)
  clear hn hn32
  go_upto_block 0 with fail
  go_cut [] from 14 to 28 (fun wx => ∃ vL, Hid (AG w w.heap.size B r q cp vL (.slice none 0 0) vL (.slice none 0 0) (rdL l n) [] wx ∧ RN w S l p c (33 + n * 27) wx))
  case first =>
    go_wp2_with fail
    go_loopw [14] (fun i wr => ∃ k : Nat, k ≤ n ∧ i = .int .i64 (k : Int) ∧ ∃ vL, Hid (AG w w.heap.size B r q cp vL (.slice none 0 0) vL (.slice none 0 0) (rdL l k) [] wr ∧ RN w S l p c (33 + k * 27) wr)) (fun i _ => n - (RowKit.intOf i).toNat)
    case atStart => exact ⟨0, Nat.zero_le _, rfl, _, H5⟩
    case round =>
      obtain ⟨k, hk, rfl, vL, HK⟩ := hrel
      clear H5
      by_cases hlt : k < n
      · go_upto_region 4 with fail
        have HD := Lib.hid (And.intro (HK.out.1.keep (grown_drew (grown_refl wr none))) (HK.out.2.keep (grown_drew (grown_refl wr none))))
        have hp33 : 33 + k * 27 ≤ 1000 := by omega
        clear HK
        refine region_until (S := fun w' => Hid (w'.heap[B]? = some (.cells #[.int .i64 r, .int .i64 q, .bool cp, vL, .slice none 0 0] 26 (0, 0)))) (fun j => j == 10 || j == 11 || j == 12) (by kernel_rfl) (Lib.hid HD.out.1.ab) (fun hHeld => ?_)
        refine anyU_take (i := 0) (oi := { dst := some 16, op := Op.fieldAddr 26 (Operand.tmp 3) 3, type := 0, pos := "advert.go:241", after := #[], guard := none }) (v := ?_) rfl (by kernel_rfl) (by kernel_rfl) (by kernel_rfl) (by kernel_rfl) (by kernel_rfl) (fun _ _ _ h => h) (Or.inl ⟨by rfl, ?_⟩) hHeld ?_
        rotate_left 1
        · intro u hSu
          have q0 := (cell_of_row _ _ 3 _ _ _ hSu.out)
          go_simp
          first | done | with_reducible rfl
        (try simp only [Act.put, List.setIfInBounds_toArray, List.set_cons_zero, List.set_cons_succ])
        refine anyU_take (i := 1) (oi := { dst := some 17, op := Op.load 23 (Operand.tmp 16), type := 23, pos := "advert.go:241", after := #[{ on := 0, ground := Ground.data }], guard := none }) (v := ?_) rfl (by kernel_rfl) (by kernel_rfl) (by kernel_rfl) (by kernel_rfl) (by kernel_rfl) (fun _ _ _ h => h) (Or.inl ⟨by rfl, ?_⟩) hHeld ?_
        rotate_left 1
        · intro u hSu
          have q0 := (cell_of_row _ _ 3 _ _ _ hSu.out)
          go_simp
          first | done | with_reducible rfl
        (try simp only [Act.put, List.setIfInBounds_toArray, List.set_cons_zero, List.set_cons_succ])
        refine anyU_take (i := 2) (oi := { dst := some 18, op := Op.move (Operand.tmp 0), type := 112, pos := "advert.go:241", after := #[], guard := none }) (v := ?_) rfl (by kernel_rfl) (by kernel_rfl) (by kernel_rfl) (by kernel_rfl) (by kernel_rfl) (fun _ _ _ h => h) (Or.inl ⟨by rfl, ?_⟩) hHeld ?_
        rotate_left 1
        · intro u hSu
          have q0 := (cell_of_row _ _ 3 _ _ _ hSu.out)
          go_simp
          first | done | with_reducible rfl
        (try simp only [Act.put, List.setIfInBounds_toArray, List.set_cons_zero, List.set_cons_succ])
        refine anyU_take (i := 4) (oi := { dst := some 20, op := Op.move (Operand.tmp 0), type := 112, pos := "advert.go:241", after := #[], guard := none }) (v := ?_) rfl (by kernel_rfl) (by kernel_rfl) (by kernel_rfl) (by kernel_rfl) (by kernel_rfl) (fun _ _ _ h => h) (Or.inl ⟨by rfl, ?_⟩) hHeld ?_
        rotate_left 1
        · intro u hSu
          have q0 := (cell_of_row _ _ 3 _ _ _ hSu.out)
          go_simp
          first | done | with_reducible rfl
        (try simp only [Act.put, List.setIfInBounds_toArray, List.set_cons_zero, List.set_cons_succ])
        refine anyU_take (i := 6) (oi := { dst := some 22, op := Op.move (Operand.tmp 0), type := 112, pos := "advert.go:241", after := #[], guard := none }) (v := ?_) rfl (by kernel_rfl) (by kernel_rfl) (by kernel_rfl) (by kernel_rfl) (by kernel_rfl) (fun _ _ _ h => h) (Or.inl ⟨by rfl, ?_⟩) hHeld ?_
        rotate_left 1
        · intro u hSu
          have q0 := (cell_of_row _ _ 3 _ _ _ hSu.out)
          go_simp
          first | done | with_reducible rfl
        (try simp only [Act.put, List.setIfInBounds_toArray, List.set_cons_zero, List.set_cons_succ])
        refine anyU_ready (rs := [3]) (by kernel_rfl) (by simp) ?_
        refine EachU.cons (o := { dst := some 19, op := Op.call { callee := Callee.value (Operand.func 52), args := #[Operand.tmp 18, Operand.const (Value.int IntKind.i64 7)], argTypes := #[112, 3] }, type := 3, pos := "advert.go:241", after := #[{ on := 2, ground := Ground.data }], guard := none }) rfl (fun Kz hK => ?_) EachU.nil
        go_simp
        go_at_call 52
        refine (HD.out.2.take HB.out.1 HB.out.2 7 (by decide) (by omega)).mono ?_
        rintro e w5 ⟨rfl, hR, hg⟩
        have HDn := Lib.hid (And.intro (HD.out.1.out hg hR.lt) hR)
        clear hR hg HD
        have HD := HDn
        clear HDn
        refine hK.out _ _ (fun _ => Lib.hid HD.out.1.ab) (fun hH2 => ?_)
        clear hK Kz hHeld
        have hHeld := hH2 rfl
        clear hH2
        (try simp only [Act.put, List.setIfInBounds_toArray, List.set_cons_zero, List.set_cons_succ])
        refine anyU_ready (rs := [5]) (by kernel_rfl) (by simp) ?_
        refine EachU.cons (o := { dst := some 21, op := Op.call { callee := Callee.value (Operand.func 52), args := #[Operand.tmp 20, Operand.const (Value.int IntKind.i64 10)], argTypes := #[112, 3] }, type := 3, pos := "advert.go:241", after := #[{ on := 4, ground := Ground.data }, { on := 3, ground := Ground.chain }], guard := none }) rfl (fun Kz hK => ?_) EachU.nil
        go_simp
        go_at_call 52
        refine (HD.out.2.take HB.out.1 HB.out.2 10 (by decide) (by omega)).mono ?_
        rintro e w5 ⟨rfl, hR, hg⟩
        have HDn := Lib.hid (And.intro (HD.out.1.out hg hR.lt) hR)
        clear hR hg HD
        have HD := HDn
        clear HDn
        refine hK.out _ _ (fun _ => Lib.hid HD.out.1.ab) (fun hH2 => ?_)
        clear hK Kz hHeld
        have hHeld := hH2 rfl
        clear hH2
        (try simp only [Act.put, List.setIfInBounds_toArray, List.set_cons_zero, List.set_cons_succ])
        refine anyU_ready (rs := [7]) (by kernel_rfl) (by simp) ?_
        refine EachU.cons (o := { dst := some 23, op := Op.call { callee := Callee.value (Operand.func 52), args := #[Operand.tmp 22, Operand.const (Value.int IntKind.i64 10)], argTypes := #[112, 3] }, type := 3, pos := "advert.go:241", after := #[{ on := 6, ground := Ground.data }, { on := 5, ground := Ground.chain }], guard := none }) rfl (fun Kz hK => ?_) EachU.nil
        go_simp
        go_at_call 52
        refine (HD.out.2.take HB.out.1 HB.out.2 10 (by decide) (by omega)).mono ?_
        rintro e w5 ⟨rfl, hR, hg⟩
        have HDn := Lib.hid (And.intro (HD.out.1.out hg hR.lt) hR)
        clear hR hg HD
        have HD := HDn
        clear HDn
        refine hK.out _ _ (fun _ => Lib.hid HD.out.1.ab) (fun hH2 => ?_)
        clear hK Kz hHeld
        have hHeld := hH2 rfl
        clear hH2
        (try simp only [Act.put, List.setIfInBounds_toArray, List.set_cons_zero, List.set_cons_succ])
        refine anyU_take (i := 8) (oi := { dst := some 24, op := Op.build 70 #[(0, Operand.tmp 19), (1, Operand.tmp 21), (2, Operand.tmp 23)], type := 70, pos := "advert.go:241", after := #[{ on := 3, ground := Ground.data }, { on := 5, ground := Ground.data }, { on := 7, ground := Ground.data }], guard := none }) (v := ?_) rfl (by kernel_rfl) (by kernel_rfl) (by kernel_rfl) (by kernel_rfl) (by kernel_rfl) (fun _ _ _ h => h) (Or.inl ⟨by rfl, ?_⟩) hHeld ?_
        rotate_left 1
        · intro u hSu
          have q0 := (cell_of_row _ _ 3 _ _ _ hSu.out)
          go_simp
          first | done | with_reducible rfl
        (try simp only [Act.put, List.setIfInBounds_toArray, List.set_cons_zero, List.set_cons_succ])
        refine anyU_ready (rs := [9]) (by kernel_rfl) (by simp) ?_
        refine EachU.cons (o := { dst := some 25, op := Op.buildSlice 23 1 #[(0, Operand.tmp 24)], type := 23, pos := "advert.go:241", after := #[{ on := 8, ground := Ground.data }], guard := none }) rfl (fun Kz hK => ?_) EachU.nil
        go_simp
        have HDn := Lib.hid (And.intro (HD.out.1.keep (World.grownBy_alloc _ (.cells #[.int .i64 ((fd l (33 + k * 27) 7 : Nat) : Int), .int .i64 ((fd l (33 + k * 27 + 7) 10 : Nat) : Int), .int .i64 ((fd l (33 + k * 27 + 7 + 10) 10 : Nat) : Int)] 70) none)) (HD.out.2.keep (World.grownBy_alloc _ (.cells #[.int .i64 ((fd l (33 + k * 27) 7 : Nat) : Int), .int .i64 ((fd l (33 + k * 27 + 7) 10 : Nat) : Int), .int .i64 ((fd l (33 + k * 27 + 7 + 10) 10 : Nat) : Int)] 70) none)))
        clear HD
        have HD := HDn
        clear HDn
        refine hK.out _ _ (fun _ => Lib.hid HD.out.1.ab) (fun hH2 => ?_)
        clear hK Kz hHeld
        have hHeld := hH2 rfl
        clear hH2
        (try simp only [Act.put, List.setIfInBounds_toArray, List.set_cons_zero, List.set_cons_succ])
        refine anyU_ready (rs := [10]) (by kernel_rfl) (by simp) ?_
        refine EachU.cons (o := { dst := some 26, op := Op.call { callee := Callee.builtin Builtin.append, args := #[Operand.tmp 17, Operand.tmp 25], argTypes := #[23, 23] }, type := 23, pos := "advert.go:241", after := #[{ on := 1, ground := Ground.data }, { on := 9, ground := Ground.data }, { on := 7, ground := Ground.chain }], guard := none }) rfl (fun Kz hK => ?_) EachU.nil
        refine (astep_app t3C 3 24 (by decide) (fun _ => rfl) t3_one 70 23 ir _ Tryd.underlying23 hir hr0 hr1 hr2 rfl (by decide) (by rfl) _ _ (by rfl) (B + 1) vL (rdL l k) (by rfl) HD.out.1.oL (some ⟨_, 0, none⟩) 1 1 [⟨((fd l (33 + k * 27) 7 : Nat) : Int), ((fd l (33 + k * 27 + 7) 10 : Nat) : Int), ((fd l (33 + k * 27 + 7 + 10) 10 : Nat) : Int)⟩] (by rfl) rfl (by simp) (fun _ => True) (rdf_one _ trivial (cells3 _ _ _ _ _) 1) (by omega) (by rw [rdL_len]; simp; omega) (by have := HD.out.1.sz; omega) ?_)
        intro p4 c4 w8 hown hg hat
        have HD5 := Lib.hid (And.intro (HD.out.1.addL (M := rdL l k ++ [⟨((fd l (33 + k * 27) 7 : Nat) : Int), ((fd l (33 + k * 27 + 7) 10 : Nat) : Int), ((fd l (33 + k * 27 + 7 + 10) 10 : Nat) : Int)⟩]) hown hg hat) (HD.out.2.row hg (fun b hb => by have := HD.out.1.geL b hb; have := HD.out.1.lo; omega)))
        rw [← (show rdL l (k + 1) = rdL l k ++ [⟨((fd l (33 + k * 27) 7 : Nat) : Int), ((fd l (33 + k * 27 + 7) 10 : Nat) : Int), ((fd l (33 + k * 27 + 7 + 10) 10 : Nat) : Int)⟩] by rw [rdL_succ])] at HD5
        obtain ⟨c90, c91, c92, c93, c94⟩ := HD5.out.1.cells
        have fB := frozen_of_row _ _ 3 _ _ HD5.out.1.ab
        clear hown hg hat HD
        refine hK.out _ _ (fun h => by cases h) (fun _ => ?_)
        clear hK Kz
        (try simp only [Act.put, List.setIfInBounds_toArray, List.set_cons_zero, List.set_cons_succ])
        refine anyU_ready (rs := [11]) (by kernel_rfl) (by simp) ?_
        refine EachU.cons (o := { dst := some 27, op := Op.fieldAddr 26 (Operand.tmp 3) 3, type := 0, pos := "advert.go:241", after := #[{ on := 0, ground := Ground.phase }, { on := 1, ground := Ground.phase }, { on := 2, ground := Ground.phase }, { on := 3, ground := Ground.phase }, { on := 4, ground := Ground.phase }, { on := 5, ground := Ground.phase }, { on := 6, ground := Ground.phase }, { on := 7, ground := Ground.phase }, { on := 8, ground := Ground.phase }, { on := 9, ground := Ground.phase }, { on := 10, ground := Ground.phase }], guard := none }) rfl (fun Kz hK => ?_) EachU.nil
        go_simp
        refine hK.out _ _ (fun h => by cases h) (fun _ => ?_)
        clear hK Kz
        (try simp only [Act.put, List.setIfInBounds_toArray, List.set_cons_zero, List.set_cons_succ])
        refine anyU_ready (rs := [12]) (by kernel_rfl) (by simp) ?_
        refine EachU.cons (o := { dst := none, op := Op.store 23 (Operand.tmp 27) (Operand.tmp 26), type := 0, pos := "advert.go:241", after := #[{ on := 11, ground := Ground.data }, { on := 10, ground := Ground.data }, { on := 10, ground := Ground.chain }, { on := 0, ground := Ground.phase }, { on := 1, ground := Ground.phase }, { on := 2, ground := Ground.phase }, { on := 3, ground := Ground.phase }, { on := 4, ground := Ground.phase }, { on := 5, ground := Ground.phase }, { on := 6, ground := Ground.phase }, { on := 7, ground := Ground.phase }, { on := 8, ground := Ground.phase }, { on := 9, ground := Ground.phase }, { on := 10, ground := Ground.phase }], guard := none }) rfl (fun Kz hK => ?_) EachU.nil
        go_simp
        refine hK.out _ _ (fun h => by cases h) (fun _ => ?_)
        clear hK Kz
        (try simp only [Act.put, List.setIfInBounds_toArray, List.set_cons_zero, List.set_cons_succ])
        refine anyU_done (by kernel_rfl) ?_ _
        have HN := Lib.hid (ar_putL HD5.out)
        clear HD5 hHeld c90 c91 c92 c93 c94 fB
        go_wp2_with fail
        exact ⟨⟨k + 1, by omega, congrArg _ (by omega), _, by rw [show 33 + (k + 1) * 27 = 33 + k * 27 + 7 + 10 + 10 by omega]; exact HN⟩, by simp only [RowKit.intOf]; omega⟩
      · obtain rfl : k = n := by omega
        go_wp2_with fail
        go_meet
        exact ⟨vL, HK⟩
  case rest =>
  obtain ⟨vL, HK⟩ := hcut
  clear H5
  go_wp2_with fail
  refine (HK.out.2.take HB.out.1 HB.out.2 4 (by decide) (by omega)).mono ?_
  rintro e w7 ⟨rfl, hR, hg⟩
  have H7 := Lib.hid (And.intro (HK.out.1.out hg hS) hR)
  clear hR hg HK
  have hm16 : fd l (33 + n * 27) 4 < 16 := fd_lt l _ 4
  obtain ⟨m, hm⟩ : ∃ m, fd l (33 + n * 27) 4 = m := ⟨_, rfl⟩
  rw [hm]
  have hm15 : m ≤ 15 := by omega
  have HM := Lib.hid (show nCm l = m by unfold nCm aCm; rw [HN.out]; exact hm)
  clear hm hm16
  obtain ⟨P, hP⟩ : ∃ P, 33 + n * 27 + 4 = P := ⟨_, rfl⟩
  have hP2 : P ≤ 900 := by omega
  have HP := Lib.hid (show aCm l + 4 = P by unfold aCm; rw [HN.out]; exact hP)
  rw [hP] at H7
  clear hP
  go_upto_block 2 with fail
  go_cut [] from 31 to 46 (fun wx => ∃ vC, Hid (AG w w.heap.size B r q cp vL vC vL vC (rdL l n) (rdC l P m) wx ∧ RN w S l p c (P + m * 14) wx))
  case first =>
    go_wp2_with fail
    go_loopw [31] (fun i wr => ∃ k : Nat, k ≤ m ∧ i = .int .i64 (k : Int) ∧ ∃ vC, Hid (AG w w.heap.size B r q cp vL vC vL vC (rdL l n) (rdC l P k) wr ∧ RN w S l p c (P + k * 14) wr)) (fun i _ => m - (RowKit.intOf i).toNat)
    case atStart => exact ⟨0, Nat.zero_le _, rfl, _, by rw [Nat.zero_mul]; exact H7⟩
    case round =>
      obtain ⟨k, hk, rfl, vC, HK⟩ := hrel
      clear H7
      by_cases hlt : k < m
      · go_upto_region 8 with fail
        have HD := Lib.hid (And.intro (HK.out.1.keep (grown_drew (grown_refl wr none))) (HK.out.2.keep (grown_drew (grown_refl wr none))))
        have hp33 : P + k * 14 ≤ 2000 := by omega
        obtain ⟨X, hX⟩ : ∃ X : Int, X = ((8 * 2 ^ fd l (P + k * 14 + 3 + 9) 2 : Nat) : Int) := ⟨_, rfl⟩
        have HX := Lib.hid hX
        clear hX
        clear HK
        refine region_until (S := fun w' => Hid (w'.heap[B]? = some (.cells #[.int .i64 r, .int .i64 q, .bool cp, vL, vC] 26 (0, 0)))) (fun j => j == 11 || j == 12 || j == 13) (by kernel_rfl) (Lib.hid HD.out.1.ab) (fun hHeld => ?_)
        refine anyU_take (i := 0) (oi := { dst := some 33, op := Op.fieldAddr 26 (Operand.tmp 3) 4, type := 0, pos := "advert.go:244", after := #[], guard := none }) (v := ?_) rfl (by kernel_rfl) (by kernel_rfl) (by kernel_rfl) (by kernel_rfl) (by kernel_rfl) (fun _ _ _ h => h) (Or.inl ⟨by rfl, ?_⟩) hHeld ?_
        rotate_left 1
        · intro u hSu
          have q0 := (cell_of_row _ _ 4 _ _ _ hSu.out)
          go_simp
          first | done | with_reducible rfl
        (try simp only [Act.put, List.setIfInBounds_toArray, List.set_cons_zero, List.set_cons_succ])
        refine anyU_take (i := 1) (oi := { dst := some 34, op := Op.load 24 (Operand.tmp 33), type := 24, pos := "advert.go:244", after := #[{ on := 0, ground := Ground.data }], guard := none }) (v := ?_) rfl (by kernel_rfl) (by kernel_rfl) (by kernel_rfl) (by kernel_rfl) (by kernel_rfl) (fun _ _ _ h => h) (Or.inl ⟨by rfl, ?_⟩) hHeld ?_
        rotate_left 1
        · intro u hSu
          have q0 := (cell_of_row _ _ 4 _ _ _ hSu.out)
          go_simp
          first | done | with_reducible rfl
        (try simp only [Act.put, List.setIfInBounds_toArray, List.set_cons_zero, List.set_cons_succ])
        refine anyU_take (i := 2) (oi := { dst := some 35, op := Op.move (Operand.tmp 0), type := 112, pos := "advert.go:244", after := #[], guard := none }) (v := ?_) rfl (by kernel_rfl) (by kernel_rfl) (by kernel_rfl) (by kernel_rfl) (by kernel_rfl) (fun _ _ _ h => h) (Or.inl ⟨by rfl, ?_⟩) hHeld ?_
        rotate_left 1
        · intro u hSu
          have q0 := (cell_of_row _ _ 4 _ _ _ hSu.out)
          go_simp
          first | done | with_reducible rfl
        (try simp only [Act.put, List.setIfInBounds_toArray, List.set_cons_zero, List.set_cons_succ])
        refine anyU_take (i := 4) (oi := { dst := some 37, op := Op.move (Operand.tmp 0), type := 112, pos := "advert.go:244", after := #[], guard := none }) (v := ?_) rfl (by kernel_rfl) (by kernel_rfl) (by kernel_rfl) (by kernel_rfl) (by kernel_rfl) (fun _ _ _ h => h) (Or.inl ⟨by rfl, ?_⟩) hHeld ?_
        rotate_left 1
        · intro u hSu
          have q0 := (cell_of_row _ _ 4 _ _ _ hSu.out)
          go_simp
          first | done | with_reducible rfl
        (try simp only [Act.put, List.setIfInBounds_toArray, List.set_cons_zero, List.set_cons_succ])
        refine anyU_take (i := 6) (oi := { dst := some 39, op := Op.move (Operand.tmp 0), type := 112, pos := "advert.go:244", after := #[], guard := none }) (v := ?_) rfl (by kernel_rfl) (by kernel_rfl) (by kernel_rfl) (by kernel_rfl) (by kernel_rfl) (fun _ _ _ h => h) (Or.inl ⟨by rfl, ?_⟩) hHeld ?_
        rotate_left 1
        · intro u hSu
          have q0 := (cell_of_row _ _ 4 _ _ _ hSu.out)
          go_simp
          first | done | with_reducible rfl
        (try simp only [Act.put, List.setIfInBounds_toArray, List.set_cons_zero, List.set_cons_succ])
        refine anyU_ready (rs := [3]) (by kernel_rfl) (by simp) ?_
        refine EachU.cons (o := { dst := some 36, op := Op.call { callee := Callee.value (Operand.func 52), args := #[Operand.tmp 35, Operand.const (Value.int IntKind.i64 3)], argTypes := #[112, 3] }, type := 3, pos := "advert.go:244", after := #[{ on := 2, ground := Ground.data }], guard := none }) rfl (fun Kz hK => ?_) EachU.nil
        go_simp
        go_at_call 52
        refine (HD.out.2.take HB.out.1 HB.out.2 3 (by decide) (by omega)).mono ?_
        rintro e w5 ⟨rfl, hR, hg⟩
        have HDn := Lib.hid (And.intro (HD.out.1.out hg hR.lt) hR)
        clear hR hg HD
        have HD := HDn
        clear HDn
        refine hK.out _ _ (fun _ => Lib.hid HD.out.1.ab) (fun hH2 => ?_)
        clear hK Kz hHeld
        have hHeld := hH2 rfl
        clear hH2
        (try simp only [Act.put, List.setIfInBounds_toArray, List.set_cons_zero, List.set_cons_succ])
        refine anyU_ready (rs := [5]) (by kernel_rfl) (by simp) ?_
        refine EachU.cons (o := { dst := some 38, op := Op.call { callee := Callee.value (Operand.func 52), args := #[Operand.tmp 37, Operand.const (Value.int IntKind.i64 9)], argTypes := #[112, 3] }, type := 3, pos := "advert.go:244", after := #[{ on := 4, ground := Ground.data }, { on := 3, ground := Ground.chain }], guard := none }) rfl (fun Kz hK => ?_) EachU.nil
        go_simp
        go_at_call 52
        refine (HD.out.2.take HB.out.1 HB.out.2 9 (by decide) (by omega)).mono ?_
        rintro e w5 ⟨rfl, hR, hg⟩
        have HDn := Lib.hid (And.intro (HD.out.1.out hg hR.lt) hR)
        clear hR hg HD
        have HD := HDn
        clear HDn
        refine hK.out _ _ (fun _ => Lib.hid HD.out.1.ab) (fun hH2 => ?_)
        clear hK Kz hHeld
        have hHeld := hH2 rfl
        clear hH2
        (try simp only [Act.put, List.setIfInBounds_toArray, List.set_cons_zero, List.set_cons_succ])
        refine anyU_ready (rs := [7]) (by kernel_rfl) (by simp) ?_
        refine EachU.cons (o := { dst := some 40, op := Op.call { callee := Callee.value (Operand.func 52), args := #[Operand.tmp 39, Operand.const (Value.int IntKind.i64 2)], argTypes := #[112, 3] }, type := 3, pos := "advert.go:244", after := #[{ on := 6, ground := Ground.data }, { on := 5, ground := Ground.chain }], guard := none }) rfl (fun Kz hK => ?_) EachU.nil
        go_simp
        go_at_call 52
        refine (HD.out.2.take HB.out.1 HB.out.2 2 (by decide) (by omega)).mono ?_
        rintro e w5 ⟨rfl, hR, hg⟩
        have HDn := Lib.hid (And.intro (HD.out.1.out hg hR.lt) hR)
        clear hR hg HD
        have HD := HDn
        clear HDn
        refine hK.out _ _ (fun _ => Lib.hid HD.out.1.ab) (fun hH2 => ?_)
        clear hK Kz hHeld
        have hHeld := hH2 rfl
        clear hH2
        (try simp only [Act.put, List.setIfInBounds_toArray, List.set_cons_zero, List.set_cons_succ])
        refine anyU_take (i := 8) (oi := { dst := some 41, op := Op.binOp BinOp.shl 3 (Operand.const (Value.int IntKind.i64 8)) (Operand.tmp 40) 3, type := 3, pos := "advert.go:244", after := #[{ on := 7, ground := Ground.data }], guard := none }) (v := .int .i64 X) rfl (by kernel_rfl) (by kernel_rfl) (by kernel_rfl) (by kernel_rfl) (by kernel_rfl) (fun _ _ _ h => h) (Or.inl ⟨by rfl, ?_⟩) hHeld ?_
        · intro u hSu
          have q0 := (cell_of_row _ _ 4 _ _ _ hSu.out)
          clear q0 hSu
          rw [HX.out]
          have hx4 : fd l (P + k * 14 + 3 + 9) 2 < 4 := fd_lt l _ 2
          generalize fd l (P + k * 14 + 3 + 9) 2 = x at hx4 ⊢
          rcases (show x = 0 ∨ x = 1 ∨ x = 2 ∨ x = 3 by omega) with rfl | rfl | rfl | rfl <;> (go_simp; rfl)
        (try simp only [Act.put, List.setIfInBounds_toArray, List.set_cons_zero, List.set_cons_succ])
        refine anyU_take (i := 9) (oi := { dst := some 42, op := Op.build 73 #[(0, Operand.tmp 36), (1, Operand.tmp 38), (2, Operand.tmp 41)], type := 73, pos := "advert.go:244", after := #[{ on := 3, ground := Ground.data }, { on := 5, ground := Ground.data }, { on := 8, ground := Ground.data }], guard := none }) (v := ?_) rfl (by kernel_rfl) (by kernel_rfl) (by kernel_rfl) (by kernel_rfl) (by kernel_rfl) (fun _ _ _ h => h) (Or.inl ⟨by rfl, ?_⟩) hHeld ?_
        rotate_left 1
        · intro u hSu
          have q0 := (cell_of_row _ _ 4 _ _ _ hSu.out)
          go_simp
          first | done | with_reducible rfl
        (try simp only [Act.put, List.setIfInBounds_toArray, List.set_cons_zero, List.set_cons_succ])
        refine anyU_ready (rs := [10]) (by kernel_rfl) (by simp) ?_
        refine EachU.cons (o := { dst := some 43, op := Op.buildSlice 24 1 #[(0, Operand.tmp 42)], type := 24, pos := "advert.go:244", after := #[{ on := 9, ground := Ground.data }], guard := none }) rfl (fun Kz hK => ?_) EachU.nil
        go_simp
        have HDn := Lib.hid (And.intro (HD.out.1.keep (World.grownBy_alloc _ (.cells #[.int .i64 ((fd l (P + k * 14) 3 : Nat) : Int), .int .i64 ((fd l (P + k * 14 + 3) 9 : Nat) : Int), .int .i64 X] 73) none)) (HD.out.2.keep (World.grownBy_alloc _ (.cells #[.int .i64 ((fd l (P + k * 14) 3 : Nat) : Int), .int .i64 ((fd l (P + k * 14 + 3) 9 : Nat) : Int), .int .i64 X] 73) none)))
        clear HD
        have HD := HDn
        clear HDn
        refine hK.out _ _ (fun _ => Lib.hid HD.out.1.ab) (fun hH2 => ?_)
        clear hK Kz hHeld
        have hHeld := hH2 rfl
        clear hH2
        (try simp only [Act.put, List.setIfInBounds_toArray, List.set_cons_zero, List.set_cons_succ])
        refine anyU_ready (rs := [11]) (by kernel_rfl) (by simp) ?_
        refine EachU.cons (o := { dst := some 44, op := Op.call { callee := Callee.builtin Builtin.append, args := #[Operand.tmp 34, Operand.tmp 43], argTypes := #[24, 24] }, type := 24, pos := "advert.go:244", after := #[{ on := 1, ground := Ground.data }, { on := 10, ground := Ground.data }, { on := 7, ground := Ground.chain }], guard := none }) rfl (fun Kz hK => ?_) EachU.nil
        refine (astep_app t3C 3 24 (by decide) (fun _ => rfl) t3_one 73 24 ic _ Tryd.underlying24 hic hc0 hc1 hc2 rfl (by decide) (by rfl) _ _ (by rfl) (B + 1) vC (rdC l P k) (by rfl) HD.out.1.oC (some ⟨_, 0, none⟩) 1 1 [⟨((fd l (P + k * 14) 3 : Nat) : Int), ((fd l (P + k * 14 + 3) 9 : Nat) : Int), X⟩] (by rfl) rfl (by simp) (fun _ => True) (rdf_one _ trivial (cells3 _ _ _ _ _) 1) (by omega) (by rw [rdC_len]; simp; omega) (by have := HD.out.1.sz; omega) ?_)
        intro p4 c4 w8 hown hg hat
        have HD5 := Lib.hid (And.intro (HD.out.1.addC (M := rdC l P k ++ [⟨((fd l (P + k * 14) 3 : Nat) : Int), ((fd l (P + k * 14 + 3) 9 : Nat) : Int), X⟩]) hown hg hat) (HD.out.2.row hg (fun b hb => by have := HD.out.1.geC b hb; have := HD.out.1.lo; omega)))
        rw [← (show rdC l P (k + 1) = rdC l P k ++ [⟨((fd l (P + k * 14) 3 : Nat) : Int), ((fd l (P + k * 14 + 3) 9 : Nat) : Int), X⟩] by rw [rdC_succ, HX.out])] at HD5
        obtain ⟨c90, c91, c92, c93, c94⟩ := HD5.out.1.cells
        have fB := frozen_of_row _ _ 4 _ _ HD5.out.1.ab
        clear hown hg hat HD
        refine hK.out _ _ (fun h => by cases h) (fun _ => ?_)
        clear hK Kz
        (try simp only [Act.put, List.setIfInBounds_toArray, List.set_cons_zero, List.set_cons_succ])
        refine anyU_ready (rs := [12]) (by kernel_rfl) (by simp) ?_
        refine EachU.cons (o := { dst := some 45, op := Op.fieldAddr 26 (Operand.tmp 3) 4, type := 0, pos := "advert.go:244", after := #[{ on := 0, ground := Ground.phase }, { on := 1, ground := Ground.phase }, { on := 2, ground := Ground.phase }, { on := 3, ground := Ground.phase }, { on := 4, ground := Ground.phase }, { on := 5, ground := Ground.phase }, { on := 6, ground := Ground.phase }, { on := 7, ground := Ground.phase }, { on := 8, ground := Ground.phase }, { on := 9, ground := Ground.phase }, { on := 10, ground := Ground.phase }, { on := 11, ground := Ground.phase }], guard := none }) rfl (fun Kz hK => ?_) EachU.nil
        go_simp
        refine hK.out _ _ (fun h => by cases h) (fun _ => ?_)
        clear hK Kz
        (try simp only [Act.put, List.setIfInBounds_toArray, List.set_cons_zero, List.set_cons_succ])
        refine anyU_ready (rs := [13]) (by kernel_rfl) (by simp) ?_
        refine EachU.cons (o := { dst := none, op := Op.store 24 (Operand.tmp 45) (Operand.tmp 44), type := 0, pos := "advert.go:244", after := #[{ on := 12, ground := Ground.data }, { on := 11, ground := Ground.data }, { on := 11, ground := Ground.chain }, { on := 0, ground := Ground.phase }, { on := 1, ground := Ground.phase }, { on := 2, ground := Ground.phase }, { on := 3, ground := Ground.phase }, { on := 4, ground := Ground.phase }, { on := 5, ground := Ground.phase }, { on := 6, ground := Ground.phase }, { on := 7, ground := Ground.phase }, { on := 8, ground := Ground.phase }, { on := 9, ground := Ground.phase }, { on := 10, ground := Ground.phase }, { on := 11, ground := Ground.phase }], guard := none }) rfl (fun Kz hK => ?_) EachU.nil
        go_simp
        refine hK.out _ _ (fun h => by cases h) (fun _ => ?_)
        clear hK Kz
        (try simp only [Act.put, List.setIfInBounds_toArray, List.set_cons_zero, List.set_cons_succ])
        refine anyU_done (by kernel_rfl) ?_ _
        have HN := Lib.hid (ar_putC HD5.out)
        clear HD5 hHeld c90 c91 c92 c93 c94 fB
        go_wp2_with fail
        exact ⟨⟨k + 1, by omega, congrArg _ (by omega), _, by rw [show P + (k + 1) * 14 = P + k * 14 + 3 + 9 + 2 by omega]; exact HN⟩, by simp only [RowKit.intOf]; omega⟩
      · obtain rfl : k = m := by omega
        go_wp2_with fail
        go_meet
        exact ⟨vC, HK⟩
  case rest =>
  obtain ⟨vC, HK⟩ := hcut
  clear H7
  obtain ⟨pL, cL, rfl, -, -⟩ := own_shape HK.out.1.oL
  obtain ⟨pC, cC, rfl, -, -⟩ := own_shape HK.out.1.oC
  have HO := Lib.hid (HK.out.1.ok rfl rfl)
  obtain ⟨c0, c1, c2, c3, c4⟩ := HK.out.1.cells
  obtain ⟨d0, d1, d2, d3, d4⟩ := row5 HK.out.1.zb
  have hlo := HK.out.1.lo
  have f0 := frozen_of_row _ _ 0 _ _ HK.out.1.zb
  have f1 := frozen_of_row _ _ 1 _ _ HK.out.1.zb
  have f2 := frozen_of_row _ _ 2 _ _ HK.out.1.zb
  have f3 := frozen_of_row _ _ 3 _ _ HK.out.1.zb
  have f4 := frozen_of_row _ _ 4 _ _ HK.out.1.zb
  obtain ⟨t1, t2⟩ := store5 (.int .i64 r) (.int .i64 q) (.bool cp) (.slice pL (rdL l n).length cL) (.slice pC (rdC l P m).length cC) HK.out.1.zb
  have HT := Lib.hid (And.intro t1 (And.intro (HO.out.grown t2 (fun b hb e => by have := Option.some.inj e; omega)) (HK.out.2.new t2 (Nat.le_refl _))))
  clear t1 t2 HK HO
  go_wp2_with fail
  refine bodyPost_ret (res_adv rfl _ _ w.heap.size _ _ _ _ _ rfl HT.out.1) rfl ?_
  refine ⟨⟨r, q, cp, rdL l n, rdC l P m, pL, cL, pC, cC⟩, rfl, ⟨HE.out.1.symm, HE.out.2.1.symm, ?_, ?_, ?_⟩, HT.out.2.1.mono (fun b hb => by omega), ?_⟩
  · have h := HE.out.2.2
    show cp = _
    rw [← h]
    rcases (show fd l 27 1 = 0 ∨ fd l 27 1 = 1 by have := fd_lt l 27 1; omega) with e | e <;> rw [e] <;> rfl
  · show rdL l n = _
    rw [HN.out]
  · show rdC l P m = _
    rw [HM.out, HP.out]
  · have h := HT.out.2.2
    unfold eCm
    rw [HM.out, HP.out]
    exact h
end Go.Proofs.YtpoocenooomghaaDoor

/- packet: the rest of a packet is read. -/
namespace Go.Proofs.YtpoocenooomghaaDoor
open Go.RowKit Bs
/-- The error behind the header: of n bits and m bytes. -/
def restE (l : List Nat) (n m : Nat) : Int := if num (bt l) (49 + n + 8 * m) 16 ≠ crcB (bt l) (49 + n + 8 * m) then 23 else if num (bt l) (49 + n + 8 * m + 16) (8 * l.length - (49 + n + 8 * m + 16)) ≠ 0 then 24 else 0
/-- The payload. -/
def restP (l : List Nat) (n m : Nat) : ByteArray := bs (pz (fun i => bt l (49 + n + i)) (8 * m) m)
def restV (V : Nat → Nat) (n : Nat) (l : List Nat) : Array Value × Int := if restE l n (V 9) = 0 then (rcells V (n : Int) (num (bt l) 49 n) (restP l n (V 9)), 0) else (zpk, restE l n (V 9))
section
variable {W w w1 : World} {V : Nat → Nat} {n b : Nat} {s : ByteArray} {l : List Nat} {p : Option Addr} {c : Nat}
end
section
variable {w : World} {q : Nat → Prop} {l : List Nat} {p : Option Addr} {c : Nat}
set_option maxRecDepth 100000 in
theorem slice_whole {A T : Nat} {a b : Int} (t : Int) (ht : t = (T : Int)) (hl : By l) (h : 8 * l.length ≤ 8192) (hT : A + T ≤ 8 * l.length) (ha : a = (A : Int)) (hb : b = ((A + T : Nat) : Int)) (hR : Rd w q (.slice p l.length c) (l.map nv)) :
    Calls Tryd.prog 51 #[.agg #[.slice p l.length c, .int .i64 (8 * (l.length : Int))], .int .i64 a, .int .i64 b] w fun e w' =>
      ∃ p2 c2, e = .returned (.tuple #[.agg #[.slice p2 (pz (fun i => bt l (A + i)) T ((T + 7) / 8)).length c2, .int .i64 t], .int .i64 0]) ∧ Rd w' (w.heap.size ≤ ·) (.slice p2 (pz (fun i => bt l (A + i)) T ((T + 7) / 8)).length c2) ((pz (fun i => bt l (A + i)) T ((T + 7) / 8)).map nv) ∧ (p2 = none → c2 = 0) ∧ w.grownBy w' none := by
  subst ha hb ht
  refine (slicep_any l (8 * (l.length : Int)) (A : Int) ((A + T : Nat) : Int) _ p c hl (by unfold I64; omega) (by unfold I64; omega) w (fun _ h => h) hR.bound).mono fun e w' hp => ?_
  have hv := slV_ok (l := l) (N := 8 * l.length) (A := A) (T := T) (vs_whole h) rfl hT
  rw [Int.natCast_mul] at hv
  change slV l (8 * (l.length : Int)) _ _ = _ at hv
  rw [hv] at hp
  obtain ⟨u, he, ⟨p2, c2, rfl, h1, h2, _⟩, hg⟩ := hp
  exact ⟨p2, c2, he, h1, h2, hg⟩
set_option maxRecDepth 100000 in
theorem take_whole {A K : Nat} {a k : Int} (hl : By l) (h : 8 * l.length ≤ 8192) (hK : K ≤ 64) (hT : A + K ≤ 8 * l.length) (ha : a = (A : Int)) (hk : k = (K : Int)) (hR : Rd w q (.slice p l.length c) (l.map nv)) :
    Calls Tryd.prog 90 #[.agg #[.slice p l.length c, .int .i64 (8 * (l.length : Int))], .int .i64 a, .int .i64 k] w fun e w' => e = .returned (.tuple #[.int .u64 ((num (bt l) A K : Nat) : Int), .int .i64 0]) ∧ w.grownBy w' none := by
  subst ha hk
  refine (takep_any l (8 * (l.length : Int)) (A : Int) (K : Int) _ p c hl (by unfold I64; omega) w hR).mono fun e w' hp => ?_
  obtain ⟨he, hg⟩ := hp
  have hv := takeV_ok (l := l) (n := ((8 * l.length : Nat) : Int)) (a := (A : Int)) (k := (K : Int)) (vs_whole h) (by unfold vw; simp; omega) (by omega) (by omega)
  rw [Int.natCast_mul, Int.toNat_natCast, Int.toNat_natCast] at hv
  change takeV l (8 * (l.length : Int)) _ _ = _ at hv
  rw [hv] at he
  exact ⟨he, hg⟩
set_option maxRecDepth 100000 in
theorem check_part {T : Nat} {t : Int} (ht : t = (T : Int)) (h : T ≤ 8 * l.length) (h2 : 8 * l.length ≤ 8192) (hR : Rd w q (.slice p (pz (fun i => bt l (0 + i)) T ((T + 7) / 8)).length c) ((pz (fun i => bt l (0 + i)) T ((T + 7) / 8)).map nv)) :
    Calls Tryd.prog 45 #[.agg #[.slice p (pz (fun i => bt l (0 + i)) T ((T + 7) / 8)).length c, .int .i64 t]] w fun e w' => e = .returned (.tuple #[.int .u64 ((crcB (bt l) T : Nat) : Int), .int .i64 0]) ∧ w.grownBy w' none := by
  subst ht
  refine (checkp_any _ (T : Int) _ p c (pz_lt _ _ _) w hR).mono fun e w' hp => ?_
  obtain ⟨he, hg⟩ := hp
  have hvs : vs (pz (fun i => bt l (0 + i)) T ((T + 7) / 8)) (T : Int) = true := by
    refine vs_iff.2 ⟨by omega, pz_len _ _ _, fun i hi hn => ?_⟩
    rw [pz_len] at hi
    rw [bt_pz _ _ _ _ hi]
    simp; omega
  rw [chkV_ok hvs] at he
  rw [← chk_same (f := bt (pz (fun i => bt l (0 + i)) T ((T + 7) / 8))) (g := bt l) T fun i hi => by rw [bt_pz _ _ _ _ (by omega)]; simp [hi]]
  exact ⟨he, hg⟩
end
end Go.Proofs.YtpoocenooomghaaDoor

/- advert.Decode. -/
namespace Go.Proofs.YtpoocenooomghaaDoor
open Go.RowKit Bs
/-- What Decode returns: an advert with the fields that the bytes say, or an error. -/
def ADecPost (l : List Nat) (w : World) (e : Ending) (w' : World) : Prop :=
  ∃ A : Ad, AdIs l A ∧ AdOk w' (w.heap.size ≤ ·) A ∧ w.grownBy w' none ∧
    (decE l (vAd A) = 0 → e = .returned (.tuple #[A.val, .int .i64 0])) ∧
    (decE l (vAd A) ≠ 0 → e = .returned (.tuple #[.agg #[.int .i64 0, .int .i64 0, .bool false, .slice none 0 0, .slice none 0 0], .int .i64 ((decE l (vAd A) : Nat) : Int)]))
set_option maxRecDepth 100000 in
theorem res_adv_err {fn : Func} {p u : Tmp} (h : fn.results = #[.cell p 26, .tmp u]) (tmps : Array Value) (w : World) (g : Nat) (x y z s t : Value) (hp : tmps.getD p undef = .pointer (some ⟨g, 0, none⟩)) (hg : w.heap[g]? = some (.cells #[x, y, z, s, t] 26 (0, 0))) :
    (results fn tmps).run Tryd.prog w = .ok (.tuple #[.agg #[x, y, z, s, t], tmps.getD u undef]) w := by
  have hp' : tmps[p]?.getD undef = .pointer (some ⟨g, 0, none⟩) := by simpa using hp
  rw [results_cell_tmp h]
  simp [hp', asAddr, run_loadVar_row w g _ _ _ _ _ hg Tryd.underlying26 rfl adv_size, Result.andThen]
set_option maxRecDepth 100000 in
set_option maxHeartbeats 6400000 in
theorem adec_any (l : List Nat) (hl : By l) (h1 : l.length ≤ 1024) (p : Option Addr) (c : Nat) (hc : l.length ≤ c) (q : Nat → Prop) (w : World) (hR : Rd w q (.slice p l.length c) (l.map nv)) :
    Calls Tryd.prog 21 #[.slice p l.length c] w fun e w' => ADecPost l w e w' := by
  have hmin : min (l.length : Int) 1024 = (l.length : Int) := by omega
  have hz := heap_alloc_new w (.cells #[.int .i64 0, .int .i64 0, .bool false, .slice none 0 0, .slice none 0 0] 26)
  have hzg := World.grownBy_alloc w (.cells #[.int .i64 0, .int .i64 0, .bool false, .slice none 0 0, .slice none 0 0] 26) none
  obtain ⟨wa, hwa⟩ : ∃ wa, wa = w.alloc (.cells #[.int .i64 0, .int .i64 0, .bool false, .slice none 0 0, .slice none 0 0] 26) := ⟨_, rfl⟩
  have hsz : wa.heap.size = w.heap.size + 1 := by rw [hwa]; simp
  rw [← hwa] at hz hzg
  have hb := heap_alloc_new wa (.cells #[.slice p l.length c, .int .i64 (8 * (l.length : Int)), .int .i64 0, .bool false] 82)
  have hbg := World.grownBy_alloc wa (.cells #[.slice p l.length c, .int .i64 (8 * (l.length : Int)), .int .i64 0, .bool false] 82) none
  obtain ⟨wb, hwb⟩ : ∃ wb, wb = wa.alloc (.cells #[.slice p l.length c, .int .i64 (8 * (l.length : Int)), .int .i64 0, .bool false] 82) := ⟨_, rfl⟩
  have hszb : wb.heap.size = w.heap.size + 2 := by rw [hwb]; simp [hsz]
  rw [← hwb] at hb hbg
  have hRb := hR.bound.keep (grown_trans hzg hbg)
  have HN : Hid (RN wb wa.heap.size l p c 0 wb) := Lib.hid ⟨⟨0, by rw [decide_eq_false (by omega)]; exact hb, Nat.le_refl _, fun _ => rfl, Nat.zero_le _⟩, hRb.mono (fun b hb => by rw [hsz]; constructor <;> omega), grown_refl _ _, by omega⟩
  have HZ : Hid (wb.heap[w.heap.size]? = some (.cells #[.int .i64 0, .int .i64 0, .bool false, .slice none 0 0, .slice none 0 0] 26 (0, 0)) ∧ w.grownBy wb none) := Lib.hid ⟨kept_row hz hbg (by simp), grown_trans hzg hbg⟩
  clear hz hzg hb hbg hRb hR
  go_enter Tryd.func21, Tryd.ntmps21
  go_upto_region 3 with fail
  rw [← hwa]
  rw [← hwb]
  rw [hsz] at HN
  obtain ⟨S, hS⟩ : ∃ S, w.heap.size + 1 = S := ⟨_, rfl⟩
  rw [hS] at HN hsz ⊢
  clear hwa hwb
  go_wp2_with fail
  refine (ardr_any l hl h1 S p c wb HN.out).mono ?_
  rintro e w1 ⟨⟨r, q2, cp, L, C, pL, cL, pC, cC⟩, rfl, hI, hO, hN1⟩
  have hEl : eCm l ≤ 1200 := by
    unfold eCm nCm aCm nLk
    have := fd_lt l 28 5
    have := fd_lt l (33 + fd l 28 5 * 27) 4
    omega
  obtain ⟨A, hA⟩ : ∃ A : Ad, A = ⟨r, q2, cp, L, C, pL, cL, pC, cC⟩ := ⟨_, rfl⟩
  have hV : A.val = .agg #[.int .i64 r, .int .i64 q2, .bool cp, .slice pL L.length cL, .slice pC C.length cC] := by rw [hA]; rfl
  have hC : adC A = #[.int .i64 r, .int .i64 q2, .bool cp, .slice pL L.length cL, .slice pC C.length cC] := by rw [hA]; rfl
  rw [← hA] at hI hO ⊢
  rw [hV]
  have HV := Lib.hid hV
  clear hA hV
  have hk1 := World.grownBy_alloc w1 (.cells (adC A) 26) none
  have HI := Lib.hid hI
  have HD1 := Lib.hid (And.intro (heap_alloc_new w1 (.cells (adC A) 26)) (And.intro (hO.keep hk1) (And.intro (hN1.keep hk1) (And.intro (kept_row (kept_row HZ.out.1 hN1.gr (fun e => by have : w.heap.size = S := Option.some.inj e; omega)) hk1 (by simp)) (Nat.le_trans hN1.gr.size hk1.size)))))
  have hDS : S < w1.heap.size := Nat.lt_of_lt_of_le hN1.lt hN1.gr.size
  have hDW : w.heap.size < w1.heap.size := by omega
  clear hI hO hN1 HN hk1
  rw [hC] at HD1
  clear hC
  go_upto_region 4 with fail
  generalize w1.alloc _ = w2 at *
  obtain ⟨D, hD⟩ : ∃ D, w1.heap.size = D := ⟨_, rfl⟩
  rw [hD] at HD1 hDS hDW ⊢
  clear hD
  obtain ⟨a1, hb1, ha1, he1, h81⟩ := HD1.out.2.2.1.bx
  obtain ⟨⟨c0, c1, c2, c3⟩, -, -⟩ := row4 hb1
  clear hb1
  go_wp2_with fail
  refine (slice_whole (A := 0) (T := a1) (a1 : Int) rfl hl (by omega) (by omega) rfl (by omega) HD1.out.2.2.1.rd).mono ?_
  rintro e w3 ⟨p2, c5, rfl, hR2, -, hg⟩
  have hk3 := World.grownBy_alloc w3 (.cells #[.slice p2 (pz (fun i => bt l (0 + i)) a1 ((a1 + 7) / 8)).length c5, .int .i64 (a1 : Int)] 47) none
  have HG := Lib.hid (And.intro (heap_alloc_new w3 (.cells #[.slice p2 (pz (fun i => bt l (0 + i)) a1 ((a1 + 7) / 8)).length c5, .int .i64 (a1 : Int)] 47)) (hR2.keep hk3))
  have g13 := grown_trans hg hk3
  have HD3 := Lib.hid (And.intro (kept_row HD1.out.1 g13 (by simp)) (And.intro (HD1.out.2.1.keep g13) (And.intro (HD1.out.2.2.1.keep g13) (kept_row HD1.out.2.2.2.1 g13 (by simp)))))
  have hGS : S < w3.heap.size := Nat.lt_of_lt_of_le (Nat.lt_of_lt_of_le HD1.out.2.2.1.lt HD1.out.2.2.1.gr.size) hg.size
  have HA1 := Lib.hid (And.intro ha1 (And.intro he1 h81))
  have hCk := check_part (l := l) (T := a1) (t := (a1 : Int)) rfl h81 (by omega) HG.out.2
  have HG0 := Lib.hid HG.out.1
  obtain ⟨L1, hL1⟩ : ∃ L1, (pz (fun i => bt l (0 + i)) a1 ((a1 + 7) / 8)).length = L1 := ⟨_, rfl⟩
  rw [hL1] at hCk HG0 HD3 ⊢
  have HCk := Lib.hid hCk
  clear HG hL1 hCk
  clear hR2 hg hk3 g13 HD1 c0 c1 c2 c3 he1 ha1 h81
  go_upto_region 5 with fail
  generalize w3.alloc _ = w4 at *
  obtain ⟨G, hG⟩ : ∃ G, w3.heap.size = G := ⟨_, rfl⟩
  rw [hG] at HG0 hGS ⊢
  clear hG
  obtain ⟨c0, c1⟩ := row_cells HG0.out
  go_wp2_with fail
  refine HCk.out.mono ?_
  rintro e w5 ⟨rfl, hg⟩
  have HD5 := Lib.hid (And.intro (kept_row HD3.out.1 hg (by simp)) (And.intro (HD3.out.2.1.keep hg) (And.intro (HD3.out.2.2.1.keep hg) (kept_row HD3.out.2.2.2 hg (by simp)))))
  clear hg HD3 HG0 HCk c0 c1
  obtain ⟨y, hy⟩ : ∃ y, Bs.crcB (bt l) a1 = y := ⟨_, rfl⟩
  rw [hy]
  have hy16 : y < 65536 := by rw [← hy]; exact Bs.chk_lt _ _
  have HY := Lib.hid hy
  clear hy
  go_wp2_with fail
  refine (HD5.out.2.2.1.take hl h1 16 (by decide) (by omega)).mono ?_
  rintro e w6 ⟨rfl, hN, hg⟩
  have HD6 := Lib.hid (And.intro (kept_row HD5.out.1 hg (fun e => by have := Option.some.inj e; omega)) (And.intro (HD5.out.2.1.grown hg (fun b hb e => by have := Option.some.inj e; have := HD5.out.2.2.1.lt; omega)) (And.intro hN (kept_row HD5.out.2.2.2 hg (fun e => by have := Option.some.inj e; omega)))))
  clear hN hg HD5
  obtain ⟨x, hx⟩ : ∃ x, fd l (eCm l) 16 = x := ⟨_, rfl⟩
  rw [hx]
  have hx16 : x < 65536 := by rw [← hx]; exact fd_lt _ _ 16
  have HX := Lib.hid hx
  clear hx
  obtain ⟨a2, hb2, ha2, he2, h82⟩ := HD6.out.2.2.1.bx
  obtain ⟨⟨-, -, c2, -⟩, -, -⟩ := row4 hb2
  clear hb2
  go_upto_region 7 with fail
  go_wp2_with fail
  rw [show (-((a2 : Int) % 8) % 8) = (((8 - a2 % 8) % 8 : Nat) : Int) by omega]
  obtain ⟨k, hk⟩ : ∃ k, (8 - a2 % 8) % 8 = k := ⟨_, rfl⟩
  rw [hk]
  have hk7 : k ≤ 7 := by omega
  refine (HD6.out.2.2.1.take hl h1 k (by omega) (by omega)).mono ?_
  rintro e w7 ⟨rfl, hN, hg⟩
  have HD7 := Lib.hid (And.intro (kept_row HD6.out.1 hg (fun e => by have := Option.some.inj e; omega)) (And.intro (HD6.out.2.1.grown hg (fun b hb e => by have := Option.some.inj e; have := HD6.out.2.2.1.lt; omega)) (And.intro hN (kept_row HD6.out.2.2.2 hg (fun e => by have := Option.some.inj e; omega)))))
  have HK := Lib.hid (And.intro hk (And.intro he2 h82))
  clear hN hg HD6 c2 he2 h82 hk
  obtain ⟨z, hz⟩ : ∃ z, fd l (eCm l + 16) k = z := ⟨_, rfl⟩
  rw [hz]
  have hz16 : z < 128 := by rw [← hz]; exact fd_le _ _ _ _ (Nat.pow_le_pow_right (n := 2) (by decide) hk7)
  have HZZ := Lib.hid hz
  clear hz
  obtain ⟨a3, hb3, ha3, he3, h83⟩ := HD7.out.2.2.1.bx
  obtain ⟨⟨-, -, c2, c3⟩, -, -⟩ := row4 hb3
  have HK3 := Lib.hid (And.intro he3 h83)
  clear hb3 he3 h83
  obtain ⟨d0, d1, d2, d3, d4⟩ := row5 HD7.out.2.2.2
  have f0 := frozen_of_row _ _ 0 _ _ HD7.out.2.2.2
  have f1 := frozen_of_row _ _ 1 _ _ HD7.out.2.2.2
  have f2 := frozen_of_row _ _ 2 _ _ HD7.out.2.2.2
  have f3 := frozen_of_row _ _ 3 _ _ HD7.out.2.2.2
  have f4 := frozen_of_row _ _ 4 _ _ HD7.out.2.2.2
  have HW : Hid (w.grownBy w7 none) := Lib.hid (grown_new HZ.out.2 HD7.out.2.2.1.gr (by omega))
  have HO : Hid (AdOk w7 (w.heap.size ≤ ·) A) := Lib.hid (HD7.out.2.1.mono (fun b hb => by omega))
  obtain ⟨t1, t2⟩ := store5 (.int .i64 0) (.int .i64 0) (.bool false) (.slice none 0 0) (.slice none 0 0) HD7.out.2.2.2
  have HT := Lib.hid (And.intro t1 (And.intro (grown_new HW.out t2 (Nat.le_refl _)) (HD7.out.2.1.grown t2 (fun b hb e => by have := Option.some.inj e; omega))))
  clear t1 t2
  by_cases hsh : 8 * l.length < eCm l + 16
  · rw [decide_eq_true (show 8 * l.length < eCm l + 16 + k by omega)] at c3
    have HE : Hid (∀ v, decE l v = 20) := Lib.hid (fun v => by unfold decE; rw [if_pos hsh])
    clear hsh
    go_wp2_with fail
    refine bodyPost_ret (res_adv_err rfl _ _ w.heap.size _ _ _ _ _ rfl HT.out.1) rfl ?_
    exact ⟨A, HI.out, HT.out.2.2.mono (fun b hb => by omega), HT.out.2.1, fun h => absurd h (by rw [HE.out]; decide), fun _ => by rw [HE.out]; rfl⟩
  · have ea2 := HK.out.2.1 hsh
    have hk := HK.out.1
    rw [ea2] at hk
    have hns : ¬ 8 * l.length < eCm l + 16 + k := by omega
    have ea3 := HK3.out.1 hns
    have hxn : num (bt l) (eCm l) 16 = x := by
      have h := HX.out
      unfold fd at h
      rwa [if_neg hsh] at h
    have hzn : num (bt l) (eCm l + 16) k = z := by
      have h := HZZ.out
      unfold fd at h
      rwa [if_neg hns] at h
    have hyn : Bs.crcB (bt l) (eCm l) = y := by
      have h := HY.out
      rwa [HA1.out.2.1 (by omega)] at h
    have HE : Hid (∀ v, decE l v = if x ≠ y then 23 else if z ≠ 0 then 24 else if (eCm l + 16 + 7) / 8 < l.length then 21 else if v = false then 1 else 0) := Lib.hid (fun v => by
      unfold decE
      rw [if_neg hsh, hxn, hyn, hk, hzn])
    rw [decide_eq_false hns] at c3
    rw [ea3] at c2
    have hlong : (eCm l + 16 + k) / 8 = (eCm l + 16 + 7) / 8 := by omega
    clear HX HZZ HY HK HK3 hxn hzn hyn hns ea2 ea3 hsh
    obtain ⟨n, hn⟩ : ∃ n, eCm l + 16 + k = n := ⟨_, rfl⟩
    rw [hn] at c2 hlong
    rw [← hlong] at HE
    have hnb : n ≤ 4000 := by omega
    have hnw : wrap64 ((n : Int) / 8) = (n : Int) / 8 := by unfold wrap64; omega
    clear hlong hk hn
    by_cases hxy : x = y
    · subst hxy
      by_cases hz0 : z = 0
      · subst hz0
        by_cases hlen : n / 8 < l.length
        · have hlen' : (n : Int) / 8 < (l.length : Int) := by omega
          have HE2 : Hid (∀ v, decE l v = 21) := Lib.hid (fun v => by rw [HE.out, if_neg (by simp), if_neg (by simp), if_pos hlen])
          clear HE hlen
          go_wp2_with fail
          refine bodyPost_ret (res_adv_err rfl _ _ w.heap.size _ _ _ _ _ rfl HT.out.1) rfl ?_
          exact ⟨A, HI.out, HT.out.2.2.mono (fun b hb => by omega), HT.out.2.1, fun h => absurd h (by rw [HE2.out]; decide), fun _ => by rw [HE2.out]; rfl⟩
        · have hlb : decide ((n : Int) / 8 < (l.length : Int)) = false := decide_eq_false (by omega)
          have hlen' : ¬ (n : Int) / 8 < (l.length : Int) := by omega
          have HE2 : Hid (∀ v, decE l v = if v = false then 1 else 0) := Lib.hid (fun v => by rw [HE.out, if_neg (by simp), if_neg (by simp), if_neg hlen])
          clear HE hlen
          obtain ⟨e0, e1, e2, e3, e4⟩ := row5 HD7.out.1
          go_wp2_with fail
          have hVa := (avalid_any A _ w7 HO.out)
          rw [HV.out] at hVa
          refine hVa.mono ?_
          rintro e w8 ⟨rfl, hg⟩
          have HO8 : Hid (AdOk w8 (wb.heap.size ≤ ·) A ∧ w.grownBy w8 none) := Lib.hid ⟨HD7.out.2.1.keep hg, grown_trans HW.out hg⟩
          have HD8 := Lib.hid (And.intro (kept_row HD7.out.1 hg (by simp)) (kept_row HD7.out.2.2.2 hg (by simp)))
          clear d0 d1 d2 d3 d4 f0 f1 f2 f3 f4 e0 e1 e2 e3 e4 HT hVa hg
          obtain ⟨d0, d1, d2, d3, d4⟩ := row5 HD8.out.2
          obtain ⟨e0, e1, e2, e3, e4⟩ := row5 HD8.out.1
          have f0 := frozen_of_row _ _ 0 _ _ HD8.out.2
          have f1 := frozen_of_row _ _ 1 _ _ HD8.out.2
          have f2 := frozen_of_row _ _ 2 _ _ HD8.out.2
          have f3 := frozen_of_row _ _ 3 _ _ HD8.out.2
          have f4 := frozen_of_row _ _ 4 _ _ HD8.out.2
          cases hv : vAd A with
          | false =>
            have HE3 : Hid (decE l (vAd A) = 1) := Lib.hid (by rw [hv, HE2.out, if_pos rfl])
            clear hv
            obtain ⟨t1, t2⟩ := store5 (.int .i64 0) (.int .i64 0) (.bool false) (.slice none 0 0) (.slice none 0 0) HD8.out.2
            have HT := Lib.hid (And.intro t1 (And.intro (grown_new HO8.out.2 t2 (Nat.le_refl _)) (HO8.out.1.grown t2 (fun b hb e => by have := Option.some.inj e; omega))))
            clear t1 t2
            go_wp2_with fail
            refine bodyPost_ret (res_adv_err rfl _ _ w.heap.size _ _ _ _ _ rfl HT.out.1) rfl ?_
            exact ⟨A, HI.out, HT.out.2.2.mono (fun b hb => by omega), HT.out.2.1, fun h => absurd h (by rw [HE3.out]; decide), fun _ => by rw [HE3.out]; rfl⟩
          | true =>
            have HE3 : Hid (decE l (vAd A) = 0) := Lib.hid (by rw [hv, HE2.out, if_neg (by decide)])
            clear hv
            obtain ⟨t1, t2⟩ := store5 (.int .i64 r) (.int .i64 q2) (.bool cp) (.slice pL L.length cL) (.slice pC C.length cC) HD8.out.2
            have HT := Lib.hid (And.intro t1 (And.intro (grown_new HO8.out.2 t2 (Nat.le_refl _)) (HO8.out.1.grown t2 (fun b hb e => by have := Option.some.inj e; omega))))
            clear t1 t2
            go_wp2_with fail
            refine bodyPost_ret (res_adv_err rfl _ _ w.heap.size _ _ _ _ _ rfl HT.out.1) rfl ?_
            exact ⟨A, HI.out, HT.out.2.2.mono (fun b hb => by omega), HT.out.2.1, fun _ => by rw [HV.out]; rfl, fun h => absurd HE3.out h⟩
      · have hz0' : ((z : Int) == 0) = false := by simp [hz0]
        have hz1' : ((z : Int) != 0) = true := by simp [hz0]
        have HE2 : Hid (∀ v, decE l v = 24) := Lib.hid (fun v => by rw [HE.out, if_neg (by simp), if_pos hz0])
        clear HE
        go_wp2_with fail
        refine bodyPost_ret (res_adv_err rfl _ _ w.heap.size _ _ _ _ _ rfl HT.out.1) rfl ?_
        exact ⟨A, HI.out, HT.out.2.2.mono (fun b hb => by omega), HT.out.2.1, fun h => absurd h (by rw [HE2.out]; decide), fun _ => by rw [HE2.out]; rfl⟩
    · have hxy' : ((x : Int) == (y : Int)) = false := by simp; omega
      have hxy1 : ((x : Int) != (y : Int)) = true := by simp; omega
      have HE2 : Hid (∀ v, decE l v = 23) := Lib.hid (fun v => by rw [HE.out, if_pos hxy])
      clear HE
      go_wp2_with fail
      refine bodyPost_ret (res_adv_err rfl _ _ w.heap.size _ _ _ _ _ rfl HT.out.1) rfl ?_
      exact ⟨A, HI.out, HT.out.2.2.mono (fun b hb => by omega), HT.out.2.1, fun h => absurd h (by rw [HE2.out]; decide), fun _ => by rw [HE2.out]; rfl⟩
end Go.Proofs.YtpoocenooomghaaDoor

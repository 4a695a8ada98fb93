/- Parts of the proof, packed: MaRMk, MaNxt, TaCpM, TaSmM, TaSmP. -/
import Derived.Test.YtahafijpcmphaaaGreatQc17
import Derived.Test.YtahafijpcmphaaaGreatQc10
import Derived.Test.YtahafijpcmphaaaGreatQc5
import Derived.Test.YtahafijpcmphaaaGreatQc16
import Derived.Test.YtahafijpcmphaaaGreatQc15
/- masks, the reference's functions: Mask, Next, Local. -/
namespace Go.Proofs.YtahafijpcmphaaaGreat
set_option maxRecDepth 100000
open Go.RowKit Go.Maps Bs
end Go.Proofs.YtahafijpcmphaaaGreat

/- tables: Row; masks: Next. -/
namespace Go.Proofs.YtahafijpcmphaaaGreat
set_option maxRecDepth 100000
open Go.RowKit Go.Maps Bs
def ivF (x : Int) : List Value := [tv x]
theorem ivF_one (x : Int) : ∀ u ∈ ivF x, u.oneCell' = true := by
 intro u hu
 simp [ivF, tv] at hu
 subst hu; rfl
theorem flat_ivF : ∀ X : List Int, X.flatMap ivF = X.map tv
 | [] => rfl
 | a :: t => by rw [List.flatMap_cons, flat_ivF t]; rfl
theorem rdf_ints {w : World} {q : Nat → Prop} {v : Value} {X : List Int} (h : Rd w q v (X.map tv)) : RdF w q v X.length (X.flatMap ivF) := by
 obtain ⟨p, c, h1, h2⟩ := h
 rw [List.length_map] at h1
 exact ⟨p, c, h1, fun hne => by
  rw [flat_ivF] at hne ⊢
  exact h2 hne⟩
set_option maxHeartbeats 1600000 in
theorem tcloneI_any (X : List Int) (p : Option Addr) (c : Nat) (q : Nat → Prop) (w : World) (hR : Rd w q (.slice p X.length c) (X.map tv)) (hn : p = none → c = 0) (hc : X.length ≤ c ∧ c ≤ 9223372036854775807) (hm : X.length ≤ 1000) :
  Calls Tryz.prog 103 #[.slice p X.length c] w fun e w' => ∃ v, e = .returned v ∧ w'.ownsRow w.heap.size 3 1 v X.length (X.map tv) ∧ w.grownBy w' none := by
 obtain ⟨ii, hii, hi0, hi1, hi2⟩ := info_parts info_int
 rw [← flat_ivF]
 have hRF := rdf_ints hR
 cases p with
 | none =>
  obtain rfl := hn rfl
  have h0 : X.length = 0 := by omega
  obtain rfl := List.eq_nil_of_length_eq_zero h0
  clear hR hRF
  have heq : ∀ w : World, (binOp .eql 22 (.slice none 0 0) (.slice none 0 0)).run Tryz.prog w = .ok (.bool true) w := fun w => Lib.run_eql_slice_nil w _ _ none 0 0 0 0 Tryz.underlying22
  go_enter Tryz.func103, Tryz.ntmps103
  go_wp2_with fail
  go_ret
  exact ⟨_, rfl, World.ownsRow_nil _ _ _ _, grown_refl _ _⟩
 | some ad =>
  have k0 := World.grownBy_alloc w (.cells #[] 3) none
  have hlit : (w.alloc (.cells #[] 3)).ownsRow w.heap.size 3 1 (.slice (some ⟨w.heap.size, 0, none⟩) 0 0) 0 (([] : List Int).flatMap ivF) := World.ownsRow_lit w #[] 0 (Nat.le_refl _) (by decide) rfl
  have HL := Lib.hid (And.intro hlit (And.intro k0 (hRF.keep k0)))
  clear hlit k0 hR hRF
  have heq : ∀ w : World, (binOp .eql 22 (.slice (some ad) X.length c) (.slice none 0 0)).run Tryz.prog w = .ok (.bool false) w := fun w => Lib.run_eql_slice_nil w _ _ (some ad) X.length c 0 0 Tryz.underlying22
  go_enter Tryz.func103, Tryz.ntmps103
  go_wp2_with (at_builtin; refine hold_on ?_)
  refine Lib.hid ?_
  refine wpList_append_f ivF 1 8 (by decide) (fun _ => rfl) ivF_one 3 22 ii _ Tryz.underlying22 hii hi0 hi1 hi2 rfl (by decide) rfl _ _ rfl w.heap.size _ [] 0 rfl rfl HL.out.1 _ _ _ X rfl rfl (fun h => by cases h) q HL.out.2.2 hc.1 (by omega) (by simp) ?_
  intro v' w1 hown hg
  rw [List.nil_append] at hown
  have HO := Lib.hid (And.intro hown (old_grow HL.out.2.1 HL.out.1 (Nat.le_refl _) hg))
  clear hown hg
  go_wp2_with fail
  go_ret
  exact ⟨v', rfl, HO.out.1, HO.out.2⟩
theorem lt_rowN {w : World} {b : Nat} {o : Obj} (h : w.heap[b]? = some o) : b < w.heap.size := by
 rcases Nat.lt_or_ge b w.heap.size with hz | hz
 ·exact hz
 ·rw [Array.getElem?_eq_none hz] at h; cases h
structure CB (W : World) (x : Rw) (w : World) : Prop where
 bx : w.heap[W.heap.size]? = some (.cells (rwC x).toArray 36 (0, 0))
 z : w.heap[W.heap.size + 1]? = some (.cells #[.int .i64 0, .slice none 0 0] 36 (0, 0))
 rd : RwOk w (· < W.heap.size) x
 gr : W.grownBy w none
theorem CB.keep {W w w1 : World} {x : Rw} (h : CB W x w) (g : w.grownBy w1 none) : CB W x w1 := ⟨kept_row h.bx g (by simp), kept_row h.z g (by simp), h.rd.keep g, grown_trans h.gr g⟩
theorem res_row1 {fn : Func} {p : Tmp} (h : fn.results = #[.cell p 36]) (tmps : Array Value) (w : World) (g : Nat) (x y : Value) (hp : tmps.getD p undef = .pointer (some ⟨g, 0, none⟩)) (hg : w.heap[g]? = some (.cells #[x, y] 36 (0, 0))) :
  (results fn tmps).run Tryz.prog w = .ok (.agg #[x, y]) w :=
 results_cell_row h tmps w g _ _ _ _ hp hg Tryz.underlying36 rfl row_size
set_option maxHeartbeats 3200000 in
theorem tcopied_any (x : Rw) (w : World) (hx : RwOk w (· < w.heap.size) x) (hn : x.p = none → x.c = 0) (hm : x.nx.length ≤ 1000) :
  Calls Tryz.prog 63 #[.agg #[.int .i64 x.id, .slice x.p x.nx.length x.c]] w fun e w' => ∃ (p1 : Option Addr) (c1 : Nat), e = .returned (.agg #[.int .i64 x.id, .slice p1 x.nx.length c1]) ∧ RwOk w' (w.heap.size ≤ ·) ⟨x.id, x.nx, p1, c1⟩ ∧ w.grownBy w' none := by
 obtain ⟨k1, k2, k3, k4⟩ := two_boxes w #[.int .i64 x.id, .slice x.p x.nx.length x.c] #[.int .i64 0, .slice none 0 0] 36 36
 have H0 : Hid (CB w x _) := Lib.hid ⟨k1, k2, hx.keep k3, k3⟩
 clear k1 k2 k3 k4 hx
 go_enter Tryz.func63, Tryz.ntmps63
 go_upto_region 1 with fail
 generalize (w.alloc _).alloc _ = wa at *
 refine region_until (S := fun w' => Hid (CB w x w')) (fun j => j == 6) (by kernel_rfl) (Lib.hid (H0.out.keep (grown_drew (grown_refl _ none)))) (fun hHeld => ?_)
 refine anyU_take (i := 0) (oi := { dst := some 3, op := Op.fieldAddr 36 (Operand.tmp 1) 0, type := 0, pos := _, after := _, guard := none }) (v := ?_) rfl (by kernel_rfl) (by kernel_rfl) (by kernel_rfl) (by kernel_rfl) (by kernel_rfl) (fun _ _ _ h => h) (Or.inl ⟨by rfl, ?_⟩) hHeld ?_
 rotate_left 1
 ·intro u hSu
  go_simp
  first | done | with_reducible rfl
 (try simp only [Act.put, zA, zB, zC])
 refine anyU_take (i := 1) (oi := { dst := some 4, op := Op.load 3 (Operand.tmp 3), type := 3, pos := _, after := _, guard := none }) (v := ?_) rfl (by kernel_rfl) (by kernel_rfl) (by kernel_rfl) (by kernel_rfl) (by kernel_rfl) (fun _ _ _ h => h) (Or.inl ⟨by rfl, ?_⟩) hHeld ?_
 rotate_left 1
 ·intro u hSu
  obtain ⟨b0, b1⟩ := rowR2 hSu.out.bx
  go_simp
  first | done | with_reducible rfl
 (try simp only [Act.put, zA, zB, zC])
 refine anyU_take (i := 2) (oi := { dst := some 5, op := Op.fieldAddr 36 (Operand.tmp 1) 1, type := 0, pos := _, after := _, guard := none }) (v := ?_) rfl (by kernel_rfl) (by kernel_rfl) (by kernel_rfl) (by kernel_rfl) (by kernel_rfl) (fun _ _ _ h => h) (Or.inl ⟨by rfl, ?_⟩) hHeld ?_
 rotate_left 1
 ·intro u hSu
  go_simp
  first | done | with_reducible rfl
 (try simp only [Act.put, zA, zB, zC])
 refine anyU_take (i := 3) (oi := { dst := some 6, op := Op.load 22 (Operand.tmp 5), type := 22, pos := _, after := _, guard := none }) (v := ?_) rfl (by kernel_rfl) (by kernel_rfl) (by kernel_rfl) (by kernel_rfl) (by kernel_rfl) (fun _ _ _ h => h) (Or.inl ⟨by rfl, ?_⟩) hHeld ?_
 rotate_left 1
 ·intro u hSu
  obtain ⟨b0, b1⟩ := rowR2 hSu.out.bx
  go_simp
  first | done | with_reducible rfl
 (try simp only [Act.put, zA, zB, zC])
 refine anyU_ready (rs := [4]) (by kernel_rfl) (by simp) ?_
 refine EachU.cons (o := { dst := some 7, op := Op.call { callee := Callee.value (Operand.func 103), args := #[Operand.tmp 6], argTypes := #[22] }, type := 22, pos := _, after := _, guard := none }) rfl (fun Kz hK => ?_) EachU.nil
 go_simp
 go_at_call 103
 refine (tcloneI_any x.nx x.p x.c _ _ hHeld.out.rd.rd hn hHeld.out.rd.hc hm).mono ?_
 rintro e w2 ⟨v, rfl, ho, hg⟩
 obtain ⟨p1, c1, rfl, hc1, hc2⟩ := own_shape ho
 have HO := Lib.hid (And.intro (rd_of_own ho) (And.intro hc1 hc2))
 have HWS := Lib.hid (lt_rowN hHeld.out.z)
 have HN := Lib.hid (hHeld.out.keep hg)
 clear ho hg hc1 hc2
 refine hK.out _ _ (fun _ => HN) (fun hH2 => ?_)
 clear hK Kz hHeld
 have hHeld := hH2 rfl
 clear hH2
 (try simp only [Act.put, zA, zB, zC])
 refine anyU_take (i := 5) (oi := { dst := some 8, op := Op.build 36 #[(0, Operand.tmp 4), (1, Operand.tmp 7)], type := 36, pos := _, after := _, guard := none }) (v := ?_) rfl (by kernel_rfl) (by kernel_rfl) (by kernel_rfl) (by kernel_rfl) (by kernel_rfl) (fun _ _ _ h => h) (Or.inl ⟨by rfl, ?_⟩) hHeld ?_
 rotate_left 1
 ·intro u hSu
  obtain ⟨b0, b1⟩ := rowR2 hSu.out.bx
  go_simp
  first | done | with_reducible rfl
 (try simp only [Act.put, zA, zB, zC])
 refine anyU_ready (rs := [6]) (by kernel_rfl) (by simp) ?_
 refine EachU.cons (o := { dst := none, op := Op.store 36 (Operand.tmp 2) (Operand.tmp 8), type := 0, pos := _, after := _, guard := none }) rfl (fun Kz hK => ?_) EachU.nil
 have H9 := hHeld
 obtain ⟨z0, z1⟩ := rowR2 hHeld.out.z
 have f0 := frozen_of_row _ _ 0 _ _ hHeld.out.z
 have f1 := frozen_of_row _ _ 1 _ _ hHeld.out.z
 go_simp
 refine hK.out _ _ (fun h => by cases h) (fun _ => ?_)
 clear hK Kz
 (try simp only [Act.put, zA, zB, zC])
 refine anyU_done (by kernel_rfl) ?_ _
 obtain ⟨t1, t2⟩ := storeR (.int .i64 x.id) (.slice p1 x.nx.length c1) H9.out.z
 have HT := Lib.hid (And.intro t1 (And.intro (grown_new H9.out.gr t2 (by omega)) (HO.out.1.grown t2 (fun b hb e => by have := Option.some.inj e; have := HWS.out; omega))))
 clear t1 t2 H9 z0 z1 f0 f1
 go_wp2_with fail
 refine bodyPost_ret (res_row1 rfl _ _ (w.heap.size + 1) _ _ rfl HT.out.1) rfl ?_
 exact ⟨p1, c1, rfl, ⟨HT.out.2.2.mono (fun b hb => by have := HWS.out; omega), HO.out.2.1, HO.out.2.2⟩, HT.out.2.1⟩
set_option maxHeartbeats 1600000 in
theorem tidxW2_any (g : Nat) (lb : Array Value) (P : Rw → Bool) (eg : EnterF g) (R : List Rw) (p : Option Addr) (c : Nat) (q : Nat → Prop) (w : World) (hR : RdF w q (.slice p R.length c) R.length (R.flatMap rwC)) (hm : R.length ≤ 9223372036854775807)
  (hP : ∀ (r : Rw) (w' : World), r ∈ R → w.grownBy w' none → Calls Tryz.prog g (#[.agg #[.int .i64 r.id, .slice r.p r.nx.length r.c]] ++ lb) w' fun e w2 => e = .returned (.bool (P r)) ∧ w'.grownBy w2 none) :
  Calls Tryz.prog 61 #[.slice p R.length c, .func (.func g) #[] lb] w fun e w' => ∃ i : Int, e = .returned (.int .i64 i) ∧ ((i = -1 ∧ (R.take R.length).any P = false) ∨ ∃ (k : Nat) (x : Rw), i = (k : Int) ∧ R[k]? = some x ∧ P x = true ∧ (R.take k).any P = false) ∧ w.grownBy w' none := by
 have HR := Lib.hid hR
 have HP := Lib.hid hP
 clear hR hP
 go_enter Tryz.func61, Tryz.ntmps61
 go_wp2_with fail
 go_loopw [8] (fun a wr => ∃ k : Nat, k ≤ R.length ∧ a = .int .i64 (k : Int) ∧ Hid (w.grownBy wr none) ∧ Hid ((R.take k).any P = false)) (fun a _ => R.length - (RowKit.intOf a).toNat)
 case atStart => exact ⟨0, Nat.zero_le _, rfl, Lib.hid (grown_refl _ _), Lib.hid (by simp)⟩
 case round =>
  obtain ⟨k, hk, rfl, G, HN⟩ := hrel
  by_cases hlt : k < R.length
  ·obtain ⟨x, hx⟩ : ∃ x, R[k]? = some x := ⟨_, List.getElem?_eq_getElem hlt⟩
   obtain ⟨-, b, off, rfl, hq, hc⟩ := rw_cells (HR.out.keep G.out) (by omega)
   obtain ⟨a0, a1⟩ := hc k x hx
   have HX := Lib.hid hx
   clear hc hx
   have hcall := HP.out x wr (List.mem_of_getElem? HX.out) G.out
   cases hp : P x
   ·rw [hp] at hcall
    have HY := Lib.hid hp
    clear hp
    go_wp2_with (go_at_fn g; refine hcall.mono ?_; rintro e w' ⟨rfl, hg⟩; have HG := Lib.hid (grown_trans G.out hg); clear hg)
    exact ⟨⟨k + 1, by omega, congrArg _ (by omega), HG, Lib.hid (any_take HN.out HX.out HY.out)⟩, by simp only [RowKit.intOf]; omega⟩
   ·rw [hp] at hcall
    have HY := Lib.hid hp
    clear hp
    go_wp2_with (go_at_fn g; refine hcall.mono ?_; rintro e w' ⟨rfl, hg⟩; have HG := Lib.hid (grown_trans G.out hg); clear hg)
    go_ret
    exact ⟨_, rfl, Or.inr ⟨k, x, rfl, HX.out, HY.out, HN.out⟩, HG.out⟩
  ·obtain rfl : k = R.length := by omega
   go_wp2_with fail
   go_ret
   exact ⟨_, rfl, Or.inl ⟨rfl, HN.out⟩, G.out⟩
theorem trow1_any (x : Rw) (g : Nat) (id : Int) (w : World) (hg : w.cell? ⟨g, 0, none⟩ = some (.int .i64 id)) :
  Calls Tryz.prog 62 #[.agg #[.int .i64 x.id, .slice x.p x.nx.length x.c], .pointer (some ⟨g, 0, none⟩)] w fun e w' => e = .returned (.bool (isW id x)) ∧ w.grownBy w' none := by
 obtain ⟨k1, k2⟩ := tone_box w #[.int .i64 x.id, .slice x.p x.nx.length x.c] 36
 have HB := Lib.hid (And.intro k1 k2)
 have hg2 := k2.cell hg (by simp)
 have HI : Hid (isW id x = decide (x.id = id)) := Lib.hid rfl
 clear k1 k2 hg
 go_enter Tryz.func62, Tryz.ntmps62
 go_upto_region 1 with fail
 generalize w.alloc _ = w1 at *
 obtain ⟨c0, c1⟩ := rowR2 HB.out.1
 by_cases e : x.id = id
 ·have e' : (x.id == id) = true := by simpa using e
  have HE : Hid (isW id x = true) := Lib.hid (by rw [HI.out]; exact decide_eq_true e)
  clear e
  go_wp2_with fail
  go_ret
  exact ⟨by rw [HE.out]; rfl, HB.out.2⟩
 ·have e' : (x.id == id) = false := by simpa using e
  have HE : Hid (isW id x = false) := Lib.hid (by rw [HI.out]; exact decide_eq_false e)
  clear e
  go_wp2_with fail
  go_ret
  exact ⟨by rw [HE.out]; rfl, HB.out.2⟩
theorem fw_none {L : List Rw} {id : Int} (h : (L.take L.length).any (isW id) = false) : fdW L id = none := by
 rw [List.take_length] at h
 unfold fdW
 rw [List.find?_eq_none]
 intro x hx hw
 have := List.any_eq_false.1 h x hx
 exact this hw
theorem fw_some {L : List Rw} {id : Int} {k : Nat} {x : Rw} (h : (L.take k).any (isW id) = false) (hx : L[k]? = some x) (hp : isW id x = true) : fdW L id = some x := by
 refine fw_hit (k := k) ?_ hx (of_decide_eq_true hp)
 rw [List.find?_eq_none]
 intro y hy hw
 exact List.any_eq_false.1 h y hy hw
structure TRW (W : World) (r s n : Int) (p : Option Addr) (c : Nat) (L : List Rw) (id : Int) (w : World) : Prop where
 bx : w.heap[W.heap.size]? = some (.cells #[.int .i64 r, .int .i64 s, .int .i64 n, .slice p L.length c] 25 (0, 0))
 ib : w.cell? ⟨W.heap.size + 1, 0, none⟩ = some (.int .i64 id)
 z : w.heap[W.heap.size + 2]? = some (.cells #[.int .i64 0, .slice none 0 0] 36 (0, 0))
 rd : RdW w (· < W.heap.size) p c L
 gr : W.grownBy w none
theorem TRW.keep {W w w1 : World} {r s n : Int} {p : Option Addr} {c : Nat} {L : List Rw} {id : Int} (h : TRW W r s n p c L id w) (g : w.grownBy w1 none) : TRW W r s n p c L id w1 :=
 ⟨kept_row h.bx g (by simp), g.cell h.ib (by simp), kept_row h.z g (by simp), h.rd.keep g, grown_trans h.gr g⟩
theorem trw_start {w : World} {r s n : Int} {p : Option Addr} {c : Nat} {L : List Rw} (id : Int) (hR : RdW w (· < w.heap.size) p c L) : TRW w r s n p c L id (((w.alloc (.cells #[.int .i64 r, .int .i64 s, .int .i64 n, .slice p L.length c] 25)).alloc (.cells #[.int .i64 id] 3)).alloc (.cells #[.int .i64 0, .slice none 0 0] 36)) := by
 obtain ⟨k1, k2, k3, k4⟩ := two_boxes w #[.int .i64 r, .int .i64 s, .int .i64 n, .slice p L.length c] #[.int .i64 id] 25 3
 obtain ⟨w2, hw2⟩ : ∃ w2, (w.alloc (.cells #[.int .i64 r, .int .i64 s, .int .i64 n, .slice p L.length c] 25)).alloc (.cells #[.int .i64 id] 3) = w2 := ⟨_, rfl⟩
 rw [hw2] at k1 k2 k3 k4 ⊢
 obtain ⟨m1, m2⟩ := tone_box w2 #[.int .i64 0, .slice none 0 0] 36
 rw [k4] at m1
 exact ⟨kept_row k1 m2 (by simp), m2.cell (cell_of_row _ _ 0 _ _ _ k2) (by simp), m1, (hR.keep k3).keep m2, grown_trans k3 m2⟩
set_option maxHeartbeats 3200000 in
theorem trow_any (r s n : Int) (p : Option Addr) (c : Nat) (L : List Rw) (id : Int) (w : World) (hR : RdW w (· < w.heap.size) p c L) (hm : L.length ≤ 9223372036854775807) (hN : ∀ x ∈ L, x.p = none → x.c = 0) (hl : ∀ x ∈ L, x.nx.length ≤ 1000) :
  Calls Tryz.prog 18 #[.agg #[.int .i64 r, .int .i64 s, .int .i64 n, .slice p L.length c], .int .i64 id] w fun e w' => ∃ (p1 : Option Addr) (c1 : Nat), e = .returned (.tuple #[.agg #[.int .i64 ((fdW L id).getD zRw).id, .slice p1 ((fdW L id).getD zRw).nx.length c1], .bool (fdW L id).isSome]) ∧ RwOk w' (w.heap.size ≤ ·) ⟨((fdW L id).getD zRw).id, ((fdW L id).getD zRw).nx, p1, c1⟩ ∧ w.grownBy w' none := by
 have e1 : EnterF 62 := enters_of Tryz.func62 (by kernel_rfl) rfl
 have H0 := Lib.hid (trw_start (r := r) (s := s) (n := n) id hR)
 have HNL := Lib.hid (And.intro hN hl)
 have EG := Lib.hid e1
 clear hR hN hl e1
 go_enter Tryz.func18, Tryz.ntmps18
 go_upto_region 1 with fail
 generalize ((w.alloc _).alloc _).alloc _ = wa at *
 obtain ⟨d0, d1, d2, d3⟩ := row4T H0.out.bx
 go_wp2_with fail
 refine (tidxW2_any 62 #[.pointer (some ⟨w.heap.size + 1, 0, none⟩)] (isW id) EG.out L p c _ wa H0.out.rd.rd hm (fun x w' hx g => trow1_any x (w.heap.size + 1) id w' (g.cell H0.out.ib (by simp)))).mono ?_
 rintro e w2 ⟨i, rfl, hi, hg⟩
 have K := Lib.hid (H0.out.keep hg)
 clear hg H0 d0 d1 d2 d3
 rcases hi with ⟨rfl, hi⟩ | ⟨k, x, rfl, hx, hp, hn⟩
 ·have HF := Lib.hid (fw_none hi)
  clear hi
  obtain ⟨z0, z1⟩ := rowR2 K.out.z
  have f0 := frozen_of_row _ _ 0 _ _ K.out.z
  have f1 := frozen_of_row _ _ 1 _ _ K.out.z
  obtain ⟨t1, t2⟩ := storeR (.int .i64 0) (.slice none 0 0) K.out.z
  have HT := Lib.hid (And.intro t1 (grown_new K.out.gr t2 (by omega)))
  clear t1 t2 K
  go_wp2_with fail
  refine bodyPost_ret (res_row_b rfl _ _ (w.heap.size + 2) _ _ rfl HT.out.1) rfl ?_
  exact ⟨none, 0, by rw [HF.out]; rfl, by rw [HF.out]; exact ⟨⟨none, 0, rfl, fun h => absurd rfl h⟩, ⟨Nat.le_refl _, by show (0 : Nat) ≤ _; omega⟩⟩, HT.out.2⟩
 ·have HF := Lib.hid (fw_some hn hx hp)
  have hk0 : ¬ (k : Int) < 0 := by omega
  have hk00 : (0 : Int) ≤ (k : Int) := by omega
  have hkl : k < L.length := by
   rcases Nat.lt_or_ge k L.length with h | h
   ·exact h
   ·rw [List.getElem?_eq_none h] at hx; cases hx
  have hkl' : (k : Int) < (L.length : Int) := by omega
  obtain ⟨-, b, off, rfl, -, hc⟩ := rw_cells K.out.rd.rd (by omega)
  obtain ⟨a0, a1⟩ := hc k x hx
  have HX := Lib.hid (List.mem_of_getElem? hx)
  obtain ⟨d0, d1, d2, d3⟩ := row4T K.out.bx
  clear hc hx hn hp
  go_wp2_with fail
  refine (tcopied_any x w2 ((K.out.rd.ok x HX.out).mono (fun b (hb : b < w.heap.size) => Nat.lt_of_lt_of_le hb K.out.gr.size)) (HNL.out.1 x HX.out) (HNL.out.2 x HX.out)).mono ?_
  rintro e w3 ⟨p1, c1, rfl, hok, hg⟩
  have K2 := Lib.hid (K.out.keep hg)
  have HO := Lib.hid hok
  have HW2 := Lib.hid (lt_rowN K.out.z)
  clear hg hok K d0 d1 d2 d3 a0 a1
  obtain ⟨z0, z1⟩ := rowR2 K2.out.z
  have f0 := frozen_of_row _ _ 0 _ _ K2.out.z
  have f1 := frozen_of_row _ _ 1 _ _ K2.out.z
  obtain ⟨t1, t2⟩ := storeR (.int .i64 x.id) (.slice p1 x.nx.length c1) K2.out.z
  have HT := Lib.hid (And.intro t1 (And.intro (grown_new K2.out.gr t2 (by omega)) (HO.out.grown t2 (fun b hb e => by have := Option.some.inj e; have := HW2.out; omega))))
  clear t1 t2 K2 HO
  go_wp2_with fail
  refine bodyPost_ret (res_row_b rfl _ _ (w.heap.size + 2) _ _ rfl HT.out.1) rfl ?_
  exact ⟨p1, c1, by rw [HF.out]; rfl, by rw [HF.out]; exact HT.out.2.2.mono (fun b hb => by have := HW2.out; omega), HT.out.2.1⟩
end Go.Proofs.YtahafijpcmphaaaGreat

/- tables: rows that are their owner's. -/
namespace Go.Proofs.YtahafijpcmphaaaGreat
set_option maxRecDepth 100000
open Go.RowKit Bs
def Rw.v (x : Rw) : Value := .slice x.p x.nx.length x.c
structure OwnT (lo : Nat) (w : World) (v : Value) (M : List Rw) : Prop where
 own : w.ownsRow lo 36 2 v M.length (M.flatMap rwC)
 nx : ∀ x ∈ M, w.ownsRow lo 3 1 x.v x.nx.length (x.nx.map tv)
 ap : ∀ x ∈ M, ∀ g, x.v.ownBlock = some g → v.ownBlock ≠ some g
 pw : M.Pairwise fun x y => ∀ g, x.v.ownBlock = some g → y.v.ownBlock ≠ some g
theorem own_keptN {w w1 : World} {base size n : Nat} {e : TypeId} {v : Value} {xs : List Value} (h : w.ownsRow base e size v n xs) (g : w.grownBy w1 none) : w1.ownsRow base e size v n xs := h.kept g (by cases v.ownBlock <;> simp)
theorem own_keptV {w w1 : World} {base size n : Nat} {e : TypeId} {v : Value} {u : Value} {xs : List Value} (h : w.ownsRow base e size v n xs) (g : w.grownBy w1 u.ownBlock) (hne : ∀ b, v.ownBlock = some b → u.ownBlock ≠ some b) : w1.ownsRow base e size v n xs := by
 refine h.kept g ?_
 cases hv : v.ownBlock with
 | none => exact .inl rfl
 | some b => exact .inr (fun e => hne b hv e.symm)
theorem own_otherL {w w' : World} {base size n b : Nat} {e : TypeId} {v : Value} {xs : List Value} (h : w.ownsRow base e size v n xs) (g : w.grownBy w' (some b)) (hb : b < base) : w'.ownsRow base e size v n xs := by
 refine h.kept g ?_
 cases hv : v.ownBlock with
 | none => exact .inl rfl
 | some k => exact .inr (fun e => by have := (h.lt k hv).1; have := Option.some.inj e; omega)
theorem OwnT.nil (lo : Nat) (w : World) : OwnT lo w (.slice none 0 0) [] := ⟨World.ownsRow_nil _ _ _ _, fun x hx => (by cases hx), fun x hx => (by cases hx), List.Pairwise.nil⟩
theorem OwnT.keep {lo : Nat} {w w1 : World} {v : Value} {M : List Rw} (h : OwnT lo w v M) (g : w.grownBy w1 none) : OwnT lo w1 v M := ⟨own_keptN h.own g, fun x hx => own_keptN (h.nx x hx) g, h.ap, h.pw⟩
theorem OwnT.mono {lo lo2 : Nat} {w : World} {v : Value} {M : List Rw} (h : OwnT lo w v M) (hl : lo2 ≤ lo) : OwnT lo2 w v M := ⟨h.own.mono hl, fun x hx => (h.nx x hx).mono hl, h.ap, h.pw⟩
theorem OwnT.over {lo r : Nat} {w w1 : World} {v : Value} {M : List Rw} (h : OwnT lo w v M) (g : w.grownBy w1 (some r)) (hr : r < lo) : OwnT lo w1 v M :=
 ⟨own_otherL h.own g hr, fun x hx => own_otherL (h.nx x hx) g hr, h.ap, h.pw⟩
theorem OwnT.push {lo : Nat} {w0 w w1 : World} {v v' : Value} {M : List Rw} {x : Rw} (h : OwnT lo w0 v M) (hlo : lo ≤ w0.heap.size) (g0 : w0.grownBy w none) (hx : w.ownsRow w0.heap.size 3 1 x.v x.nx.length (x.nx.map tv)) (hown : w1.ownsRow lo 36 2 v' (M ++ [x]).length ((M ++ [x]).flatMap rwC)) (g : w.grownBy w1 v.ownBlock) (hv : v'.ownBlock = v.ownBlock ∨ ∀ b, some b = v'.ownBlock → w.heap.size ≤ b) : OwnT lo w1 v' (M ++ [x]) := by
 have hvl : ∀ b, v.ownBlock = some b → b < w0.heap.size := fun b e => (h.own.lt b e).2
 have hyl : ∀ y ∈ M, ∀ b, y.v.ownBlock = some b → b < w0.heap.size := fun y hy b e => ((h.nx y hy).lt b e).2
 have hxl : ∀ b, x.v.ownBlock = some b → w0.heap.size ≤ b ∧ b < w.heap.size := fun b e => hx.lt b e
 have hv' : ∀ b, v'.ownBlock = some b → (v.ownBlock = some b ∨ w.heap.size ≤ b) := fun b e => by
  rcases hv with hv | hv
  ·exact Or.inl (hv ▸ e)
  ·exact Or.inr (hv b e.symm)
 refine ⟨hown, fun y hy => ?_, fun y hy b hb e => ?_, ?_⟩
 ·rcases List.mem_append.1 hy with hy | hy
  ·exact own_keptV (own_keptN (h.nx y hy) g0) g (h.ap y hy)
  ·rw [List.mem_singleton.1 hy]
   exact (own_keptV hx g (fun b hb e => by have := hxl b hb; have := hvl b e; omega)).mono hlo
 ·have h0 := g0.size
  rcases List.mem_append.1 hy with hy | hy
  ·rcases hv' b e with e | e
   ·exact h.ap y hy b hb e
   ·have := hyl y hy b hb; omega
  ·rw [List.mem_singleton.1 hy] at hb
   have := hxl b hb
   rcases hv' b e with e | e
   ·have := hvl b e; omega
   ·omega
 ·refine List.pairwise_append.2 ⟨h.pw, List.pairwise_singleton _ _, fun y hy z hz b hb e => ?_⟩
  rw [List.mem_singleton.1 hz] at e
  have := hyl y hy b hb
  have := hxl b e
  omega
theorem RdW.old {w : World} {q : Nat → Prop} {p : Option Addr} {c : Nat} {L : List Rw} (h : RdW w q p c L) : RdW w (· < w.heap.size) p c L := ⟨h.rd.old, fun x hx => ⟨(h.ok x hx).rd.old, (h.ok x hx).hc⟩⟩
structure CP (W : World) (r s n : Int) (L : List Rw) (p : Option Addr) (c : Nat) (v : Value) (M : List Rw) (w : World) : Prop where
 bT : w.heap[W.heap.size]? = some (.cells #[.int .i64 r, .int .i64 s, .int .i64 n, .slice p L.length c] 25 (0, 0))
 bR : w.heap[W.heap.size + 1]? = some (.cells #[.int .i64 0, .int .i64 0, .int .i64 0, .slice none 0 0] 25 (0, 0))
 rd : RdW w (· < W.heap.size) p c L
 own : OwnT (W.heap.size + 2) w v M
 gr : W.grownBy w none
 lo : W.heap.size + 2 ≤ w.heap.size
theorem CP.keep {W : World} {r s n : Int} {L : List Rw} {p : Option Addr} {c : Nat} {v : Value} {M : List Rw} {w w1 : World} (h : CP W r s n L p c v M w) (g : w.grownBy w1 none) : CP W r s n L p c v M w1 :=
 ⟨kept_row h.bT g (by simp), kept_row h.bR g (by simp), h.rd.keep g, h.own.keep g, grown_trans h.gr g, Nat.le_trans h.lo g.size⟩
theorem CP.push {W : World} {r s n : Int} {L : List Rw} {p : Option Addr} {c : Nat} {v v' : Value} {M : List Rw} {x : Rw} {w0 w w1 : World} (h : CP W r s n L p c v M w0) (g0 : w0.grownBy w none) (hx : w.ownsRow w0.heap.size 3 1 x.v x.nx.length (x.nx.map tv)) (hown : w1.ownsRow (W.heap.size + 2) 36 2 v' (M ++ [x]).length ((M ++ [x]).flatMap rwC)) (g : w.grownBy w1 v.ownBlock) (hv : v'.ownBlock = v.ownBlock ∨ ∀ b, some b = v'.ownBlock → w.heap.size ≤ b) : CP W r s n L p c v' (M ++ [x]) w1 := by
 have hk := h.keep g0
 have hne : ∀ b, b < W.heap.size + 2 → some b ≠ v.ownBlock := fun b hb e => by have := (h.own.own.lt b e.symm).1; omega
 exact ⟨kept_row hk.bT g (hne _ (by omega)), kept_row hk.bR g (hne _ (by omega)), hk.rd.grown g (fun b hb => hne b (by omega)), h.own.push h.lo g0 hx hown g hv, grown_any hk.gr g (fun b hb => hne b (by omega)), Nat.le_trans hk.lo g.size⟩
theorem cp_start {w : World} {q : Nat → Prop} (r s n : Int) {L : List Rw} {p : Option Addr} {c : Nat} (hR : RdW w q p c L) :
  CP w r s n L p c (.slice none 0 0) [] ((w.alloc (.cells #[.int .i64 r, .int .i64 s, .int .i64 n, .slice p L.length c] 25)).alloc (.cells #[.int .i64 0, .int .i64 0, .int .i64 0, .slice none 0 0] 25)) := by
 obtain ⟨a1, g1, z1⟩ := alloc_row (w := w) #[.int .i64 r, .int .i64 s, .int .i64 n, .slice p L.length c] 25 rfl
 generalize w.alloc _ = w1 at *
 obtain ⟨a2, g2, z2⟩ := alloc_row (w := w1) #[.int .i64 0, .int .i64 0, .int .i64 0, .slice none 0 0] 25 z1
 generalize w1.alloc _ = w2 at *
 have gg := grown_trans g1 g2
 exact ⟨kept_row a1 g2 (by simp), a2, hR.old.keep gg, OwnT.nil _ _, gg, by omega⟩
def rw0 (x : Rw) : Int × List Int := (x.id, x.nx)
end Go.Proofs.YtahafijpcmphaaaGreat

/- tables: equal lists of numbers, and equal rows. -/
namespace Go.Proofs.YtahafijpcmphaaaGreat
set_option maxRecDepth 100000
open Go.RowKit Bs
theorem tk_step {α : Type} {l m : List α} {k : Nat} {x y : α} (h : l.take k = m.take k) (hx : l[k]? = some x) (hy : m[k]? = some y) (e : x = y) : l.take (k + 1) = m.take (k + 1) := by
 rw [List.take_add_one, List.take_add_one, h, hx, hy, e]
theorem tk_ne {α : Type} {l m : List α} {k : Nat} {x y : α} (hx : l[k]? = some x) (hy : m[k]? = some y) (e : x ≠ y) : l ≠ m := by
 rintro rfl
 rw [hx] at hy
 exact e (Option.some.inj hy)
theorem tk_end {α : Type} {l m : List α} (h : l.take l.length = m.take l.length) (hl : l.length = m.length) : l = m := by
 rw [List.take_length] at h
 rw [h, hl, List.take_length]
set_option maxHeartbeats 1600000 in
theorem rintsG_any (a b : List Int) (p1 p2 : Option Addr) (c1 c2 : Nat) (q1 q2 : Nat → Prop) (w : World) (h1 : Rd w q1 (.slice p1 a.length c1) (a.map tv)) (h2 : Rd w q2 (.slice p2 b.length c2) (b.map tv)) (hm : a.length ≤ 9223372036854775807) (hm2 : b.length ≤ 9223372036854775807) :
  Calls Tryz.prog 20 #[.slice p1 a.length c1, .slice p2 b.length c2] w fun e w' => e = .returned (.bool (decide (a = b))) ∧ w.grownBy w' none := by
 by_cases hl : a.length = b.length
 case neg =>
  have hne : ((a.length : Int) != (b.length : Int)) = true := by
   rw [bne_iff_ne]; omega
  have HD : Hid (decide (a = b) = false) := Lib.hid (decide_eq_false (fun h => hl (by rw [h])))
  clear h1 h2 hl
  go_enter Tryz.func20, Tryz.ntmps20
  go_wp2_with fail
  go_ret
  exact ⟨by rw [HD.out]; rfl, grown_refl _ _⟩
 rw [← hl] at h2 hm2 ⊢
 have H := Lib.hid (And.intro h1 h2)
 have HL := Lib.hid hl
 clear h1 h2 hl hm2
 obtain ⟨z, hz⟩ : ∃ z, decide (a = b) = z := ⟨_, rfl⟩
 rw [hz]
 have HZ := Lib.hid hz
 clear hz
 go_enter Tryz.func20, Tryz.ntmps20
 go_wp2_with fail
 go_loopw [5] (fun v wr => ∃ k : Nat, k ≤ a.length ∧ v = .int .i64 (k : Int) ∧ Hid (a.take k = b.take k) ∧ w.grownBy wr none) (fun v _ => a.length - (RowKit.intOf v).toNat)
 case atStart => exact ⟨0, Nat.zero_le _, rfl, Lib.hid rfl, grown_refl _ _⟩
 case round =>
  obtain ⟨k, hk, rfl, HT, hG⟩ := hrel
  by_cases hlt : k < a.length
  ·obtain ⟨x, hx⟩ : ∃ x, a[k]? = some x := ⟨_, List.getElem?_eq_getElem (by omega)⟩
   obtain ⟨y, hy⟩ : ∃ y, b[k]? = some y := ⟨_, List.getElem?_eq_getElem (by have := HL.out; omega)⟩
   obtain ⟨-, b1, o1, rfl, _, hc1⟩ := tvT_at (H.out.1) hx
   obtain ⟨-, b2, o2, rfl, _, hc2⟩ := tvT_at (H.out.2) hy
   have e1 := hG.cell (hc1 k x hx) (by simp)
   have e2 := hG.cell (hc2 k y hy) (by simp)
   have HXY := Lib.hid (And.intro hx hy)
   have HG := Lib.hid hG
   clear hc1 hc2 hG hx hy
   by_cases e : x = y
   ·subst e
    have HT2 := Lib.hid (tk_step HT.out HXY.out.1 HXY.out.2 rfl)
    clear HT
    go_wp2_with fail
    go_region
    have HG2 := Lib.hid (grown_drew HG.out)
    clear HG e1 e2
    change Exit.then _ _ _ _ wr.drew
    generalize wr.drew = w2 at *
    go_wp2_with fail
    exact ⟨⟨k + 1, by omega, congrArg _ (by omega), HT2, HG2.out⟩, by simp only [RowKit.intOf]; omega⟩
   ·have e' : (x != y) = true := by simpa using e
    have HF : Hid (z = false) := Lib.hid (by rw [← HZ.out]; exact decide_eq_false (tk_ne HXY.out.1 HXY.out.2 e))
    clear HT e
    go_wp2_with fail
    go_region
    have HG2 := Lib.hid (grown_drew HG.out)
    clear HG e1 e2
    change Exit.then _ _ _ _ wr.drew
    generalize wr.drew = w2 at *
    go_wp2_with fail
    go_ret
    exact ⟨by rw [HF.out]; rfl, HG2.out⟩
  ·obtain rfl : k = a.length := by omega
   have HG := Lib.hid hG
   have HF : Hid (z = true) := Lib.hid (by rw [← HZ.out]; exact decide_eq_true (tk_end HT.out HL.out))
   clear hG
   go_wp2_with fail
   go_ret
   exact ⟨by rw [HF.out]; rfl, HG.out⟩
set_option maxHeartbeats 1600000 in
theorem tEqI_any (a b : List Int) (p1 p2 : Option Addr) (c1 c2 : Nat) (q1 q2 : Nat → Prop) (w : World) (h1 : Rd w q1 (.slice p1 a.length c1) (a.map tv)) (h2 : Rd w q2 (.slice p2 b.length c2) (b.map tv)) (hm : a.length ≤ 9223372036854775807) (hm2 : b.length ≤ 9223372036854775807) :
  Calls Tryz.prog 102 #[.slice p1 a.length c1, .slice p2 b.length c2] w fun e w' => e = .returned (.bool (decide (a = b))) ∧ w.grownBy w' none := by
 by_cases hl : a.length = b.length
 case neg =>
  have hne : ((a.length : Int) != (b.length : Int)) = true := by
   rw [bne_iff_ne]; omega
  have HD : Hid (decide (a = b) = false) := Lib.hid (decide_eq_false (fun h => hl (by rw [h])))
  clear h1 h2 hl
  go_enter Tryz.func102, Tryz.ntmps102
  go_wp2_with fail
  go_ret
  exact ⟨by rw [HD.out]; rfl, grown_refl _ _⟩
 rw [← hl] at h2 hm2 ⊢
 have H := Lib.hid (And.intro h1 h2)
 have HL := Lib.hid hl
 clear h1 h2 hl hm2
 obtain ⟨z, hz⟩ : ∃ z, decide (a = b) = z := ⟨_, rfl⟩
 rw [hz]
 have HZ := Lib.hid hz
 clear hz
 go_enter Tryz.func102, Tryz.ntmps102
 go_wp2_with fail
 go_loopw [13] (fun v wr => ∃ k : Nat, k ≤ a.length ∧ v = .int .i64 (k : Int) ∧ Hid (a.take k = b.take k) ∧ w.grownBy wr none) (fun v _ => a.length - (RowKit.intOf v).toNat)
 case atStart => exact ⟨0, Nat.zero_le _, rfl, Lib.hid rfl, grown_refl _ _⟩
 case round =>
  obtain ⟨k, hk, rfl, HT, hG⟩ := hrel
  by_cases hlt : k < a.length
  ·obtain ⟨x, hx⟩ : ∃ x, a[k]? = some x := ⟨_, List.getElem?_eq_getElem (by omega)⟩
   obtain ⟨y, hy⟩ : ∃ y, b[k]? = some y := ⟨_, List.getElem?_eq_getElem (by have := HL.out; omega)⟩
   obtain ⟨-, b1, o1, rfl, _, hc1⟩ := tvT_at (H.out.1) hx
   obtain ⟨-, b2, o2, rfl, _, hc2⟩ := tvT_at (H.out.2) hy
   have e1 := hG.cell (hc1 k x hx) (by simp)
   have e2 := hG.cell (hc2 k y hy) (by simp)
   have HXY := Lib.hid (And.intro hx hy)
   have HG := Lib.hid hG
   clear hc1 hc2 hG hx hy
   by_cases e : x = y
   ·subst e
    have HT2 := Lib.hid (tk_step HT.out HXY.out.1 HXY.out.2 rfl)
    clear HT
    go_wp2_with fail
    go_region
    have HG2 := Lib.hid (grown_drew HG.out)
    clear HG e1 e2
    change Exit.then _ _ _ _ wr.drew
    generalize wr.drew = w2 at *
    go_wp2_with fail
    exact ⟨⟨k + 1, by omega, congrArg _ (by omega), HT2, HG2.out⟩, by simp only [RowKit.intOf]; omega⟩
   ·have e' : (x != y) = true := by simpa using e
    have HF : Hid (z = false) := Lib.hid (by rw [← HZ.out]; exact decide_eq_false (tk_ne HXY.out.1 HXY.out.2 e))
    clear HT e
    go_wp2_with fail
    go_region
    have HG2 := Lib.hid (grown_drew HG.out)
    clear HG e1 e2
    change Exit.then _ _ _ _ wr.drew
    generalize wr.drew = w2 at *
    go_wp2_with fail
    go_ret
    exact ⟨by rw [HF.out]; rfl, HG2.out⟩
  ·obtain rfl : k = a.length := by omega
   have HG := Lib.hid hG
   have HF : Hid (z = true) := Lib.hid (by rw [← HZ.out]; exact decide_eq_true (tk_end HT.out HL.out))
   clear hG
   go_wp2_with fail
   go_ret
   exact ⟨by rw [HF.out]; rfl, HG.out⟩
theorem rw0_iff {x y : Rw} : rw0 x = rw0 y ↔ x.id = y.id ∧ x.nx = y.nx := by unfold rw0; rw [Prod.mk.injEq]
set_option maxHeartbeats 1600000 in
theorem tsameRow_any (x y : Rw) (q1 q2 : Nat → Prop) (w : World) (hx : RwOk w q1 x) (hy : RwOk w q2 y) :
  Calls Tryz.prog 60 #[.agg #[.int .i64 x.id, .slice x.p x.nx.length x.c], .agg #[.int .i64 y.id, .slice y.p y.nx.length y.c]] w fun e w' => e = .returned (.bool (decide (rw0 x = rw0 y))) ∧ w.grownBy w' none := by
 obtain ⟨k1, k2, k3, k4⟩ := two_boxes w #[.int .i64 x.id, .slice x.p x.nx.length x.c] #[.int .i64 y.id, .slice y.p y.nx.length y.c] 36 36
 have HB := Lib.hid (And.intro k1 (And.intro k2 (And.intro k3 (And.intro (hx.keep k3) (hy.keep k3)))))
 clear k1 k2 k3 k4 hx hy
 obtain ⟨xi, xn, xp, xc⟩ := x
 obtain ⟨yi, yn, yp, yc⟩ := y
 simp only at HB ⊢
 obtain ⟨z, hz⟩ : ∃ z, decide (rw0 ⟨xi, xn, xp, xc⟩ = rw0 ⟨yi, yn, yp, yc⟩) = z := ⟨_, rfl⟩
 rw [hz]
 have HZ := Lib.hid hz
 clear hz
 go_enter Tryz.func60, Tryz.ntmps60
 go_upto_region 1 with fail
 generalize (w.alloc _).alloc _ = w1 at *
 obtain ⟨a0, a1⟩ := row_cells HB.out.1
 obtain ⟨b0, b1⟩ := row_cells HB.out.2.1
 by_cases e : xi = yi
 case neg =>
  have e' : (xi == yi) = false := by simpa using e
  have HF : Hid (z = false) := Lib.hid (by rw [← HZ.out]; exact decide_eq_false (fun h => e (rw0_iff.1 h).1))
  clear e
  go_wp2_with fail
  go_ret
  exact ⟨by rw [HF.out]; rfl, HB.out.2.2.1⟩
 subst e
 have HE : Hid (decide (xn = yn) = z) := Lib.hid (by rw [← HZ.out, decide_eq_decide, rw0_iff]; simp)
 go_wp2_with fail
 refine (tEqI_any xn yn xp yp xc yc q1 q2 w1 HB.out.2.2.2.1.rd HB.out.2.2.2.2.rd (Nat.le_trans HB.out.2.2.2.1.hc.1 HB.out.2.2.2.1.hc.2) (Nat.le_trans HB.out.2.2.2.2.hc.1 HB.out.2.2.2.2.hc.2)).mono ?_
 rintro e w2 ⟨rfl, hg⟩
 rw [HE.out]
 have G := Lib.hid (grown_trans HB.out.2.2.1 hg)
 clear hg a0 a1 b0 b1
 simp only
 go_wp2_with fail
 go_ret
 exact ⟨rfl, G.out⟩
end Go.Proofs.YtahafijpcmphaaaGreat

/- tables: the program's Same. -/
namespace Go.Proofs.YtahafijpcmphaaaGreat
set_option maxRecDepth 100000
open Go.RowKit Bs
theorem rw0_get {L : List Rw} {k : Nat} {x : Rw} (h : L[k]? = some x) : (L.map rw0)[k]? = some (rw0 x) := by rw [List.getElem?_map, h]; rfl
theorem rw0_ne {L M : List Rw} (h : L.length ≠ M.length) : ¬ L.map rw0 = M.map rw0 := fun e => h (by have := congrArg List.length e; simpa using this)
theorem rw0_end {L M : List Rw} (h : (L.map rw0).take L.length = (M.map rw0).take L.length) (hl : L.length = M.length) : L.map rw0 = M.map rw0 :=
 tk_end (by rw [List.length_map]; exact h) (by rw [List.length_map, List.length_map]; exact hl)
set_option maxHeartbeats 3200000 in
theorem tEqW_any (L M : List Rw) (p1 p2 : Option Addr) (c1 c2 : Nat) (q1 q2 : Nat → Prop) (w : World) (h1 : RdW w q1 p1 c1 L) (h2 : RdW w q2 p2 c2 M) (hm : L.length ≤ 9223372036854775807) (hm2 : M.length ≤ 9223372036854775807) :
  Calls Tryz.prog 59 #[.slice p1 L.length c1, .slice p2 M.length c2, .func (.func 60) #[] #[]] w fun e w' => e = .returned (.bool (decide (L.map rw0 = M.map rw0))) ∧ w.grownBy w' none := by
 have eg : EnterF 60 := enters_of Tryz.func60 (by kernel_rfl) rfl
 by_cases hl : L.length = M.length
 case neg =>
  have hne : ((L.length : Int) != (M.length : Int)) = true := by
   rw [bne_iff_ne]; omega
  have HD : Hid (decide (L.map rw0 = M.map rw0) = false) := Lib.hid (decide_eq_false (rw0_ne hl))
  clear h1 h2 hl eg
  go_enter Tryz.func59, Tryz.ntmps59
  go_wp2_with fail
  go_ret
  exact ⟨by rw [HD.out]; rfl, grown_refl _ _⟩
 have H := Lib.hid (And.intro h1 h2)
 have HL := Lib.hid hl
 rw [← hl] at hm2 ⊢
 clear h1 h2 hl hm2
 obtain ⟨z, hz⟩ : ∃ z, decide (L.map rw0 = M.map rw0) = z := ⟨_, rfl⟩
 rw [hz]
 have HZ := Lib.hid hz
 clear hz
 have EG := Lib.hid eg
 clear eg
 go_enter Tryz.func59, Tryz.ntmps59
 go_wp2_with fail
 go_loopw [17] (fun v wr => ∃ k : Nat, k ≤ L.length ∧ v = .int .i64 (k : Int) ∧ Hid ((L.map rw0).take k = (M.map rw0).take k) ∧ Hid (w.grownBy wr none)) (fun v _ => L.length - (RowKit.intOf v).toNat)
 case atStart => exact ⟨0, Nat.zero_le _, rfl, Lib.hid rfl, Lib.hid (grown_refl _ _)⟩
 case round =>
 obtain ⟨k, hk, rfl, HT, HG⟩ := hrel
 obtain ⟨w5, hw5⟩ : ∃ w5, w5 = wr := ⟨_, rfl⟩
 rw [← hw5] at HG ⊢
 clear hw5
 by_cases hlt : k < L.length
 case neg =>
  obtain rfl : k = L.length := by omega
  have HF : Hid (z = true) := Lib.hid (by rw [← HZ.out]; exact decide_eq_true (rw0_end HT.out HL.out))
  have hnl : ¬ (L.length : Int) < (L.length : Int) := by omega
  go_wp2_with fail
  go_ret
  exact ⟨by rw [HF.out]; rfl, HG.out⟩
 have hlt' : (k : Int) < (L.length : Int) := by omega
 have hk0 : (0 : Int) ≤ (k : Int) := by omega
 obtain ⟨x, hx⟩ : ∃ x, L[k]? = some x := ⟨_, List.getElem?_eq_getElem hlt⟩
 obtain ⟨y, hy⟩ : ∃ y, M[k]? = some y := ⟨_, List.getElem?_eq_getElem (by have := HL.out; omega)⟩
 obtain ⟨-, b1, o1, rfl, -, hc1⟩ := rw_cells (H.out.1.keep HG.out).rd (by omega)
 obtain ⟨-, b2, o2, rfl, -, hc2⟩ := rw_cells (H.out.2.keep HG.out).rd (by have := HL.out; omega)
 obtain ⟨a0, a1⟩ := hc1 k x hx
 have HB2 := Lib.hid (hc2 k y hy)
 have HXY := Lib.hid (And.intro hx hy)
 have hok1 := H.out.1.ok x (List.mem_of_getElem? hx)
 have hok2 := H.out.2.ok y (List.mem_of_getElem? hy)
 have HOK := Lib.hid (And.intro hok1 hok2)
 clear hc1 hc2 hx hy hok1 hok2
 have hb5 := alloc_row (w := w5) #[.int .i64 x.id, .slice x.p x.nx.length x.c] 36 rfl
 have H5 := Lib.hid (And.intro hb5.1 hb5.2.1)
 clear hb5
 go_upto_region 6 with fail
 clear a0 a1
 generalize w5.alloc _ = w6 at *
 obtain ⟨g1, hg1⟩ : ∃ g1, w5.heap.size = g1 := ⟨_, rfl⟩
 rw [hg1] at H5 ⊢
 clear hg1
 have a0 := H5.out.2.cell HB2.out.1 (by simp)
 have a1 := H5.out.2.cell HB2.out.2 (by simp)
 have hb6 := alloc_row (w := w6) #[.int .i64 y.id, .slice y.p y.nx.length y.c] 36 rfl
 have H6 := Lib.hid (And.intro hb6.1 (And.intro hb6.2.1 (kept_row H5.out.1 hb6.2.1 (by simp))))
 clear hb6
 go_upto_region 7 with fail
 clear a0 a1
 generalize w6.alloc _ = w7 at *
 obtain ⟨g2, hg2⟩ : ∃ g2, w6.heap.size = g2 := ⟨_, rfl⟩
 rw [hg2] at H6 ⊢
 clear hg2
 have HG7 := Lib.hid (grown_trans (grown_trans HG.out H5.out.2) H6.out.2.1)
 obtain ⟨a0, a1⟩ := row_cells H6.out.2.2
 obtain ⟨d0, d1⟩ := row_cells H6.out.1
 clear H5 H6 HB2 HG
 have e1 := EG.out
 obtain ⟨v, hv⟩ : ∃ v, decide (rw0 x = rw0 y) = v := ⟨_, rfl⟩
 have HV := Lib.hid hv
 go_wp2_with fail
 refine (tsameRow_any x y _ _ w7 (HOK.out.1.keep HG7.out) (HOK.out.2.keep HG7.out)).mono ?_
 rintro e w8 ⟨rfl, hg⟩
 rw [hv]
 have G := Lib.hid (grown_trans HG7.out hg)
 clear hg HG7 a0 a1 d0 d1 e1 hv
 simp only
 cases v
 case false =>
  have HF : Hid (z = false) := Lib.hid (by rw [← HZ.out]; exact decide_eq_false (tk_ne (rw0_get HXY.out.1) (rw0_get HXY.out.2) (of_decide_eq_false HV.out)))
  go_wp2_with fail
  go_ret
  exact ⟨by rw [HF.out]; rfl, G.out⟩
 have HT2 := Lib.hid (tk_step HT.out (rw0_get HXY.out.1) (rw0_get HXY.out.2) (of_decide_eq_true HV.out))
 clear HT
 go_wp2_with fail
 exact ⟨⟨k + 1, by omega, congrArg _ (by omega), HT2, G⟩, by simp only [RowKit.intOf]; omega⟩
def smT (r s n : Int) (L : List Rw) (r2 s2 n2 : Int) (M : List Rw) : Bool := decide (r = r2 ∧ s = s2 ∧ n = n2 ∧ L.map rw0 = M.map rw0)
structure B2T (W : World) (r s n : Int) (p : Option Addr) (c : Nat) (L : List Rw) (r2 s2 n2 : Int) (p2 : Option Addr) (c2 : Nat) (M : List Rw) (q1 q2 : Nat → Prop) (w : World) : Prop where
 b1 : w.heap[W.heap.size]? = some (.cells #[.int .i64 r, .int .i64 s, .int .i64 n, .slice p L.length c] 25 (0, 0))
 b2 : w.heap[W.heap.size + 1]? = some (.cells #[.int .i64 r2, .int .i64 s2, .int .i64 n2, .slice p2 M.length c2] 25 (0, 0))
 r1 : RdW w q1 p c L
 r2 : RdW w q2 p2 c2 M
 gr : W.grownBy w none
theorem B2T.keep {W : World} {r s n : Int} {p : Option Addr} {c : Nat} {L : List Rw} {r2 s2 n2 : Int} {p2 : Option Addr} {c2 : Nat} {M : List Rw} {q1 q2 : Nat → Prop} {w w1 : World} (h : B2T W r s n p c L r2 s2 n2 p2 c2 M q1 q2 w) (g : w.grownBy w1 none) : B2T W r s n p c L r2 s2 n2 p2 c2 M q1 q2 w1 :=
 ⟨kept_row h.b1 g (by simp), kept_row h.b2 g (by simp), h.r1.keep g, h.r2.keep g, grown_trans h.gr g⟩
theorem b2t_start {w : World} (r s n : Int) {p : Option Addr} {c : Nat} {L : List Rw} (r2 s2 n2 : Int) {p2 : Option Addr} {c2 : Nat} {M : List Rw} {q1 q2 : Nat → Prop} (h1 : RdW w q1 p c L) (h2 : RdW w q2 p2 c2 M) : B2T w r s n p c L r2 s2 n2 p2 c2 M q1 q2 ((w.alloc (.cells #[.int .i64 r, .int .i64 s, .int .i64 n, .slice p L.length c] 25)).alloc (.cells #[.int .i64 r2, .int .i64 s2, .int .i64 n2, .slice p2 M.length c2] 25)) := by
 obtain ⟨k1, k2, k3, k4⟩ := two_boxes w #[.int .i64 r, .int .i64 s, .int .i64 n, .slice p L.length c] #[.int .i64 r2, .int .i64 s2, .int .i64 n2, .slice p2 M.length c2] 25 25
 exact ⟨k1, k2, h1.keep k3, h2.keep k3, k3⟩
set_option maxHeartbeats 3200000 in
theorem tSame_any (r s n : Int) (p : Option Addr) (c : Nat) (L : List Rw) (r2 s2 n2 : Int) (p2 : Option Addr) (c2 : Nat) (M : List Rw) (q1 q2 : Nat → Prop) (w : World) (h1 : RdW w q1 p c L) (h2 : RdW w q2 p2 c2 M) (hm : L.length ≤ 9223372036854775807) (hm2 : M.length ≤ 9223372036854775807) :
  Calls Tryz.prog 15 #[.agg #[.int .i64 r, .int .i64 s, .int .i64 n, .slice p L.length c], .agg #[.int .i64 r2, .int .i64 s2, .int .i64 n2, .slice p2 M.length c2]] w fun e w' => e = .returned (.bool (smT r s n L r2 s2 n2 M)) ∧ w.grownBy w' none := by
 have H := Lib.hid (b2t_start r s n r2 s2 n2 h1 h2)
 clear h1 h2
 obtain ⟨z, hz⟩ : ∃ z, smT r s n L r2 s2 n2 M = z := ⟨_, rfl⟩
 rw [hz]
 have HZ := Lib.hid hz
 clear hz
 go_enter Tryz.func15, Tryz.ntmps15
 go_upto_region 1 with fail
 generalize (w.alloc _).alloc _ = w1 at *
 obtain ⟨a0, a1, a2, a3⟩ := row4T H.out.b1
 obtain ⟨d0, d1, d2, d3⟩ := row4T H.out.b2
 by_cases er : r = r2
 case neg =>
  have er' : (r == r2) = false := by simpa using er
  have HF : Hid (z = false) := Lib.hid (by rw [← HZ.out]; exact decide_eq_false (fun h => er h.1))
  clear er
  go_wp2_with fail
  go_ret
  exact ⟨by rw [HF.out]; rfl, H.out.gr⟩
 subst er
 by_cases es : s = s2
 case neg =>
  have es' : (s == s2) = false := by simpa using es
  have HF : Hid (z = false) := Lib.hid (by rw [← HZ.out]; exact decide_eq_false (fun h => es h.2.1))
  clear es
  go_wp2_with fail
  go_ret
  exact ⟨by rw [HF.out]; rfl, H.out.gr⟩
 subst es
 by_cases en : n = n2
 case neg =>
  have en' : (n == n2) = false := by simpa using en
  have HF : Hid (z = false) := Lib.hid (by rw [← HZ.out]; exact decide_eq_false (fun h => en h.2.2.1))
  clear en
  go_wp2_with fail
  go_ret
  exact ⟨by rw [HF.out]; rfl, H.out.gr⟩
 subst en
 have HE : Hid (decide (L.map rw0 = M.map rw0) = z) := Lib.hid (by rw [← HZ.out]; unfold smT; rw [decide_eq_decide]; simp)
 go_wp2_with fail
 refine (tEqW_any L M p p2 c c2 _ _ w1 H.out.r1 H.out.r2 hm hm2).mono ?_
 rintro e w2 ⟨rfl, hg⟩
 rw [HE.out]
 have G := Lib.hid (grown_trans H.out.gr hg)
 clear hg a0 a1 a2 a3 d0 d1 d2 d3
 simp only
 go_wp2_with fail
 go_ret
 exact ⟨rfl, G.out⟩
end Go.Proofs.YtahafijpcmphaaaGreat

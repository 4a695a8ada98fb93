/- Parts of the proof, packed: DbLnk, DbQu, DbBm. -/
import Derived.Test.YtnpkihioklpnmaaDo7
import Derived.Test.YtnpkihioklpnmaaDo5
import Derived.Deep.CutBlock
import Derived.Deep.CutRange
import Derived.Test.YtnpkihioklpnmaaDo6
import Derived.ArgAppend
import Derived.Maps.OwnSet
import Derived.Maps.OwnOps
/- database: linked, between. -/
namespace Go.Proofs.Ytnpkihioklpnmaa
open Go.RowKit Bs
/-- While linked routers are looked for: the database, the advert's box, the list that grows. -/
structure LS (w : World) (l : List Ad) (p : Option Addr) (c : Nat) (A : Ad) (v : Value) (M : List Ad) (wr : World) : Prop where
  db : RdA wr (· < w.heap.size) (.slice p l.length c) l
  ab : wr.heap[w.heap.size]? = some (.cells #[.int .i64 A.r, .int .i64 A.q, .bool A.cp, .slice A.pL A.L.length A.cL, .slice A.pC A.C.length A.cC] 38 (0, 0))
  ok : AdOk wr (· < w.heap.size) A
  own : wr.ownsRow (w.heap.size + 1) 38 5 v M.length (M.flatMap adL)
  gr : w.grownBy wr none
section
variable {w wr w1 : World} {l M : List Ad} {p : Option Addr} {c : Nat} {A : Ad} {v : Value}
set_option maxRecDepth 100000 in
theorem LS.keep (h : LS w l p c A v M wr) (g : wr.grownBy w1 none) : LS w l p c A v M w1 :=
  ⟨h.db.keep g, kept_row h.ab g (by simp), h.ok.keep g, h.own.kept g (by cases hv : v.ownBlock <;> simp), grown_trans h.gr g⟩
set_option maxRecDepth 100000 in
theorem LS.new (h : LS w l p c A v M wr) {b : Nat} (g : wr.grownBy w1 (some b)) (hb : w.heap.size < b) (hne : v.ownBlock ≠ some b) : LS w l p c A v M w1 := by
  refine ⟨h.db.grown g (fun x hx e => by have := Option.some.inj e; omega), kept_row h.ab g (fun e => by have := Option.some.inj e; omega), h.ok.grown g (fun x hx e => by have := Option.some.inj e; omega), h.own.kept g ?_, grown_new h.gr g (by omega)⟩
  cases hv : v.ownBlock with
  | none => exact .inl rfl
  | some g' => exact .inr fun e => hne (hv.trans e)
/-- A box for three numbers has come. -/
structure NR (w : World) (v : Value) (b : Nat) (wr : World) : Prop where
  ab : wr.heap[b]? = some (.cells #[.int .i64 0, .int .i64 0, .int .i64 0] 73 (0, 0))
  lt : w.heap.size < b
  ne : v.ownBlock ≠ some b
set_option maxRecDepth 100000 in
theorem NR.keep {b : Nat} (h : NR w v b wr) (g : wr.grownBy w1 none) : NR w v b w1 := ⟨kept_row h.ab g (by simp), h.lt, h.ne⟩
set_option maxRecDepth 100000 in
theorem LS.nr (h : LS w l p c A v M wr) : ∀ b, b = wr.heap.size → NR w v b (wr.alloc (.cells #[.int .i64 0, .int .i64 0, .int .i64 0] 73)) := by
  rintro b rfl
  exact ⟨heap_alloc_new wr _, World.lt_of_row' h.ab, fun e => by have := (h.own.lt _ e).2; omega⟩
set_option maxRecDepth 100000 in
theorem LS.put {b : Nat} (h : LS w l p c A v M wr) (n : NR w v b wr) (x y z : Int) : LS w l p c A v M (((wr.setCell ⟨b, 0, none⟩ (.int .i64 x)).setCell ⟨b, 1, none⟩ (.int .i64 y)).setCell ⟨b, 2, none⟩ (.int .i64 z)) :=
  h.new (store3r (.int .i64 x) (.int .i64 y) (.int .i64 z) n.ab).2 n.lt n.ne
set_option maxRecDepth 100000 in
theorem LS.app {v' : Value} {o : Obj} {B : Ad} (h : LS w l p c A v M wr) (hown : w1.ownsRow (w.heap.size + 1) 38 5 v' (M.length + 1) (M.flatMap adL ++ adL B)) (hg : (wr.alloc o).grownBy w1 v.ownBlock) : LS w l p c A v' (M ++ [B]) w1 := by
  have k0 := World.grownBy_alloc wr o none
  have h1 := h.keep k0
  have hb : ∀ b, v.ownBlock = some b → w.heap.size < b := fun b hb => by have := (h.own.lt b hb).1; omega
  refine ⟨h1.db.grown hg (fun x hx e => by have := hb x e.symm; omega), kept_row h1.ab hg (fun e => by have := hb _ e.symm; omega), h1.ok.grown hg (fun x hx e => by have := hb x e.symm; omega), ?_, ?_⟩
  · rw [List.flatMap_append, List.length_append, List.flatMap_cons, List.flatMap_nil, List.append_nil]; exact hown
  · cases hv : v.ownBlock with
    | none => rw [hv] at hg; exact grown_trans h1.gr hg
    | some b => rw [hv] at hg; exact grown_new h1.gr hg (by have := hb b hv; omega)
end
set_option maxRecDepth 100000 in
theorem one_rowA (w : World) (t : TypeId) (B : Ad) (j : Nat) (u : Value) (hu : ([B].flatMap adL)[j]? = some u) : (w.alloc (.cells #[.int .i64 B.r, .int .i64 B.q, .bool B.cp, .slice B.pL B.L.length B.cL, .slice B.pC B.C.length B.cC] t)).cell? ((⟨w.heap.size, 0, none⟩ : Addr).add j) = some u := by
  have h := heap_alloc_new w (.cells #[.int .i64 B.r, .int .i64 B.q, .bool B.cp, .slice B.pL B.L.length B.cL, .slice B.pC B.C.length B.cC] t)
  rw [add_plain, Nat.zero_add, cell_of_row _ _ _ _ _ _ h]
  have : [B].flatMap adL = adL B := by simp
  rw [this] at hu
  simpa [adL] using hu
def LnkPost (M : List Ad) (w : World) (e : Ending) (w' : World) : Prop := ∃ p c, e = .returned (.slice p M.length c) ∧ RdF w' (fun b => w.heap.size ≤ b ∧ b < w'.heap.size) (.slice p M.length c) M.length (M.flatMap adL) ∧ (M.length ≤ c ∧ c ≤ 9223372036854775807) ∧ w.grownBy w' none
set_option maxRecDepth 100000 in
theorem lk1_no {l : List Ad} {A : Ad} {x : T3} (h : fndA l x.a = none) : lk1 l A x = [] := by unfold lk1; rw [h]
set_option maxRecDepth 100000 in
theorem lk1_yes {l : List Ad} {A B : Ad} {x : T3} {b : Bool} (h : fndA l x.a = some B) (hb : (rcA B A.r).isSome = b) : lk1 l A x = if b = true then [B] else [] := by
  unfold lk1
  rw [h]
  simp only
  rw [hb]
set_option maxRecDepth 100000 in
set_option maxHeartbeats 6400000 in
theorem dlinked_any (l : List Ad) (A : Ad) (p : Option Addr) (c : Nat) (q : Nat → Prop) (w : World) (hR : RdA w q (.slice p l.length c) l) (hA : AdOk w q A) (hp : l.Pairwise (fun A B => A.r < B.r)) (hm : l.length ≤ 1000) (hL : A.L.length ≤ 1000) :
    Calls Try.prog 66 #[.slice p l.length c, .agg #[.int .i64 A.r, .int .i64 A.q, .bool A.cp, .slice A.pL A.L.length A.cL, .slice A.pC A.C.length A.cC]] w fun e w' => LnkPost (lnk l A) w e w' := by
  obtain ⟨ia, hia, hz0, hz1, hz2⟩ := info_parts info_ad5
  have k1 := heap_alloc_new w (.cells #[.int .i64 A.r, .int .i64 A.q, .bool A.cp, .slice A.pL A.L.length A.cL, .slice A.pC A.C.length A.cC] 38)
  have k2 := World.grownBy_alloc w (.cells #[.int .i64 A.r, .int .i64 A.q, .bool A.cp, .slice A.pL A.L.length A.cL, .slice A.pC A.C.length A.cC] 38) none
  have N0 : Hid (LS w l p c A (.slice none 0 0) ((A.L.take 0).flatMap (lk1 l A)) (w.alloc (.cells #[.int .i64 A.r, .int .i64 A.q, .bool A.cp, .slice A.pL A.L.length A.cL, .slice A.pC A.C.length A.cC] 38))) := Lib.hid ⟨(RdA.old hR).keep k2, k1, hA.old.keep k2, World.ownsRow_nil _ _ _ _, k2⟩
  have HP := Lib.hid hp
  clear k1 k2 hR hA hp
  go_enter Try.func66, Try.ntmps66
  go_upto_region 1 with fail
  generalize w.alloc _ = wa at *
  obtain ⟨c0, c1, c2, c3, c4⟩ := row5 N0.out.ab
  obtain ⟨ar, aq, acp, aL, aC, apL, acL, apC, acC⟩ := A
  obtain ⟨A, hAA⟩ : ∃ A : Ad, A = ⟨ar, aq, acp, aL, aC, apL, acL, apC, acC⟩ := ⟨_, rfl⟩
  have hAL : A.L = aL := by rw [hAA]
  have hAr : A.r = ar := by rw [hAA]
  have hcA : #[.int .i64 A.r, .int .i64 A.q, .bool A.cp, .slice A.pL A.L.length A.cL, .slice A.pC A.C.length A.cC] = (#[.int .i64 ar, .int .i64 aq, .bool acp, .slice apL aL.length acL, .slice apC aC.length acC] : Array Value) := by rw [hAA]
  rw [← hAA] at N0 ⊢
  simp only at c0 c1 c2 c3 c4 hL ⊢
  have HAA := Lib.hid (And.intro hAL (And.intro hAr hcA))
  have HAE := Lib.hid hAA
  clear hAA hAL hAr hcA
  rw [HAA.out.1] at N0
  go_wp2_with fail
  go_loopw [5, 15] (fun v a wr => ∃ k : Nat, k ≤ aL.length ∧ a = .int .i64 (k : Int) ∧ (∃ pv nv cv, v = .slice pv nv cv) ∧ Hid (LS w l p c A v ((aL.take k).flatMap (lk1 l A)) wr)) (fun _ a _ => aL.length - (RowKit.intOf a).toNat)
  case atStart => exact ⟨0, Nat.zero_le _, rfl, ⟨_, _, _, rfl⟩, N0⟩
  case round =>
    obtain ⟨k, hk, rfl, ⟨pv, nv, cv, rfl⟩, N⟩ := hrel
    clear N0 c0 c1 c2 c3 c4
    by_cases hlt : k < aL.length
    · have hLr := N.out.ok.l
      rw [HAA.out.1] at hLr
      have hcv : (Value.slice A.pL aL.length A.cL) = .slice apL aL.length acL := by
        have := congrArg (fun a : Array Value => a[3]?) HAA.out.2.2
        simp only [HAA.out.1] at this
        simpa using this
      rw [hcv] at hLr
      obtain ⟨-, b, off, rfl, hq, hc⟩ := rd3_cells hLr (by omega)
      obtain ⟨x, hx⟩ : ∃ x, aL[k]? = some x := ⟨_, List.getElem?_eq_getElem hlt⟩
      obtain ⟨a0, a1, a2⟩ := hc k x hx
      have HS : Hid ((aL.take (k + 1)).flatMap (lk1 l A) = (aL.take k).flatMap (lk1 l A) ++ lk1 l A x) := Lib.hid (by have h := hx; rw [← HAA.out.1] at h ⊢; exact lnk_snoc h)
      have hMl : ((aL.take k).flatMap (lk1 l A)).length ≤ k := by
        have := lnk_len l ⟨ar, 0, false, aL.take k, [], none, 0, none, 0⟩
        have h2 : lnk l (⟨A.r, 0, false, aL.take k, [], none, 0, none, 0⟩ : Ad) = (aL.take k).flatMap (lk1 l A) := rfl
        have h3 := lnk_len l (⟨A.r, 0, false, aL.take k, [], none, 0, none, 0⟩ : Ad)
        rw [h2] at h3
        simp only [List.length_take] at h3
        omega
      obtain ⟨M, hM⟩ : ∃ M, (aL.take k).flatMap (lk1 l A) = M := ⟨_, rfl⟩
      rw [hM] at N HS hMl
      clear hc hx hM hLr hcv
      obtain rfl : nv = M.length := by
        obtain ⟨p', c', e, _⟩ := own_shape N.out.own
        injection e
      have gal := World.grownBy_alloc wr (.cells #[.int .i64 x.a, .int .i64 x.b, .int .i64 x.c] 73) none
      have N1 := Lib.hid (And.intro (N.out.keep gal) (heap_alloc_new wr (.cells #[.int .i64 x.a, .int .i64 x.b, .int .i64 x.c] 73)))
      clear gal N
      go_upto_region 5 with fail
      clear a0 a1 a2
      generalize wr.alloc _ = wy at *
      obtain ⟨d0, d1, d2⟩ := row3 N1.out.2
      go_wp2_with fail
      refine (dplace_any l x.a p c _ wy N1.out.1.db (by omega)).mono ?_
      rintro e w2 ⟨i, bo, rfl, hP, hg⟩
      have N2 := Lib.hid (N1.out.1.keep hg)
      have hF := hP.fnd HP.out
      have hle := hP.le
      clear hg N1 d0 d1 d2 hP
      cases bo with
      | false =>
        have HL : Hid (lk1 l A x = []) := Lib.hid (lk1_no (hF.2 rfl))
        clear hF
        go_wp2_with fail
        exact ⟨⟨k + 1, by omega, congrArg _ (by omega), ⟨_, _, _, rfl⟩, by rw [HS.out, HL.out, List.append_nil]; exact N2⟩, by simp only [RowKit.intOf]; omega⟩
      | true =>
        obtain ⟨hi, hsm⟩ := hF.1 rfl
        obtain ⟨B, hB⟩ : ∃ B, fndA l x.a = some B := Option.isSome_iff_exists.1 hsm
        rw [hB] at hi
        have hil : i < l.length := (List.getElem?_eq_some_iff.1 hi).1
        obtain ⟨bk, hbk⟩ : ∃ b, (rcA B ar).isSome = b := ⟨_, rfl⟩
        have HL : Hid (lk1 l A x = if bk = true then [B] else []) := Lib.hid (lk1_yes hB (by rw [HAA.out.2.1]; exact hbk))
        have HB := Lib.hid (And.intro hi (List.mem_of_getElem? hi))
        have HBK := Lib.hid hbk
        obtain ⟨-, b2, off2, rfl, hq2, -⟩ := rda_cells N2.out.db (by omega)
        have i0 : (0 : Int) ≤ (i : Int) := by omega
        have i1 : (i : Int) < (l.length : Int) := by omega
        clear hF hi hsm hB hbk
        go_upto_region 7 with fail
        go_cut [10, 11] from 28 to 37 (fun u t wx => t = .bool bk ∧ Hid (LS w l (some ⟨b2, off2, none⟩) c A (.slice pv M.length cv) M wx))
        case first =>
          have HD := Lib.hid (N2.out.keep (grown_drew (grown_refl w2 none)))
          clear N2
          refine region_until2 (S := fun w' => Hid (LS w l (some ⟨b2, off2, none⟩) c A (.slice pv M.length cv) M w')) (fun j => j == 11 || j == 12) (by kernel_rfl) (HD) (fun hHeld => ?_)
          refine anyV_take (i := 0) (oi := { dst := some 29, op := Op.move (Operand.tmp 0), type := 23, pos := "database.go:179", after := #[], guard := none }) (v := ?_) rfl (by kernel_rfl) (by kernel_rfl) (by kernel_rfl) (by kernel_rfl) (by kernel_rfl) (fun _ _ _ h => h) (Or.inl ⟨by rfl, ?_⟩) hHeld ?_
          rotate_left 1
          · intro u hSu
            obtain ⟨q0, q1, q2, q3, q4⟩ := rda_at hSu.out.db HB.out.1
            have hab := hSu.out.ab
            rw [HAA.out.2.2] at hab
            obtain ⟨c0, c1, c2, c3, c4⟩ := row5 hab
            go_simp
            first | done | with_reducible rfl
          (try simp only [Act.put, List.setIfInBounds_toArray, List.set_cons_zero, List.set_cons_succ])
          refine anyV_take (i := 1) (oi := { dst := some 30, op := Op.move (Operand.tmp 8), type := 3, pos := "database.go:179", after := #[], guard := none }) (v := ?_) rfl (by kernel_rfl) (by kernel_rfl) (by kernel_rfl) (by kernel_rfl) (by kernel_rfl) (fun _ _ _ h => h) (Or.inl ⟨by rfl, ?_⟩) hHeld ?_
          rotate_left 1
          · intro u hSu
            obtain ⟨q0, q1, q2, q3, q4⟩ := rda_at hSu.out.db HB.out.1
            have hab := hSu.out.ab
            rw [HAA.out.2.2] at hab
            obtain ⟨c0, c1, c2, c3, c4⟩ := row5 hab
            go_simp
            first | done | with_reducible rfl
          (try simp only [Act.put, List.setIfInBounds_toArray, List.set_cons_zero, List.set_cons_succ])
          refine anyV_take (i := 2) (oi := { dst := some 31, op := Op.indexAddr 23 (Operand.tmp 29) (Operand.tmp 30), type := 0, pos := "database.go:179", after := #[{ on := 0, ground := Ground.data }, { on := 1, ground := Ground.data }], guard := none }) (v := ?_) rfl (by kernel_rfl) (by kernel_rfl) (by kernel_rfl) (by kernel_rfl) (by kernel_rfl) (fun _ _ _ h => h) (Or.inl ⟨by rfl, ?_⟩) hHeld ?_
          rotate_left 1
          · intro u hSu
            obtain ⟨q0, q1, q2, q3, q4⟩ := rda_at hSu.out.db HB.out.1
            have hab := hSu.out.ab
            rw [HAA.out.2.2] at hab
            obtain ⟨c0, c1, c2, c3, c4⟩ := row5 hab
            go_simp
            first | done | with_reducible rfl
          (try simp only [Act.put, List.setIfInBounds_toArray, List.set_cons_zero, List.set_cons_succ])
          refine anyV_take (i := 3) (oi := { dst := some 32, op := Op.load 38 (Operand.tmp 31), type := 38, pos := "database.go:179", after := #[{ on := 2, ground := Ground.data }], guard := none }) (v := ?_) rfl (by kernel_rfl) (by kernel_rfl) (by kernel_rfl) (by kernel_rfl) (by kernel_rfl) (fun _ _ _ h => h) (Or.inl ⟨by rfl, ?_⟩) hHeld ?_
          rotate_left 1
          · intro u hSu
            obtain ⟨q0, q1, q2, q3, q4⟩ := rda_at hSu.out.db HB.out.1
            have hab := hSu.out.ab
            rw [HAA.out.2.2] at hab
            obtain ⟨c0, c1, c2, c3, c4⟩ := row5 hab
            go_simp
            first | done | with_reducible rfl
          (try simp only [Act.put, List.setIfInBounds_toArray, List.set_cons_zero, List.set_cons_succ])
          refine anyV_take (i := 4) (oi := { dst := some 33, op := Op.fieldAddr 38 (Operand.tmp 3) 0, type := 0, pos := "database.go:179", after := #[], guard := none }) (v := ?_) rfl (by kernel_rfl) (by kernel_rfl) (by kernel_rfl) (by kernel_rfl) (by kernel_rfl) (fun _ _ _ h => h) (Or.inl ⟨by rfl, ?_⟩) hHeld ?_
          rotate_left 1
          · intro u hSu
            obtain ⟨q0, q1, q2, q3, q4⟩ := rda_at hSu.out.db HB.out.1
            have hab := hSu.out.ab
            rw [HAA.out.2.2] at hab
            obtain ⟨c0, c1, c2, c3, c4⟩ := row5 hab
            go_simp
            first | done | with_reducible rfl
          (try simp only [Act.put, List.setIfInBounds_toArray, List.set_cons_zero, List.set_cons_succ])
          refine anyV_take (i := 5) (oi := { dst := some 34, op := Op.load 3 (Operand.tmp 33), type := 3, pos := "database.go:179", after := #[{ on := 4, ground := Ground.data }], guard := none }) (v := ?_) rfl (by kernel_rfl) (by kernel_rfl) (by kernel_rfl) (by kernel_rfl) (by kernel_rfl) (fun _ _ _ h => h) (Or.inl ⟨by rfl, ?_⟩) hHeld ?_
          rotate_left 1
          · intro u hSu
            obtain ⟨q0, q1, q2, q3, q4⟩ := rda_at hSu.out.db HB.out.1
            have hab := hSu.out.ab
            rw [HAA.out.2.2] at hab
            obtain ⟨c0, c1, c2, c3, c4⟩ := row5 hab
            go_simp
            first | done | with_reducible rfl
          (try simp only [Act.put, List.setIfInBounds_toArray, List.set_cons_zero, List.set_cons_succ])
          refine anyV_ready (rs := [6, 10]) (by kernel_rfl) (by simp) ?_
          refine EachV.cons (o := { dst := some 35, op := Op.call { callee := Callee.value (Operand.func 97), args := #[Operand.tmp 32, Operand.tmp 34], argTypes := #[38, 3] }, type := 74, pos := "database.go:179", after := #[{ on := 3, ground := Ground.data }, { on := 5, ground := Ground.data }], guard := none }) rfl (fun Kz hK => ?_) (EachV.cons (o := { dst := some 10, op := Op.alloc 73, type := 0, pos := "database.go:179", after := #[], guard := none }) rfl (fun Kz hK => ?_) EachV.nil)
          · go_simp
            go_at_call 97
            refine (dreach_any B ar _ _ (hHeld.out.db.ok B HB.out.2)).mono ?_
            rintro e w5 ⟨rfl, hg⟩
            rw [HBK.out]
            have hHn := Lib.hid (hHeld.out.keep hg)
            try replace HS9 := Lib.hid (show ∀ b, b = _ → _ from fun b hb => (HS9.out b hb).keep hg)
            clear hg
            refine hK.out _ _ (fun _ _ => hHn) (fun hH2 => ?_)
            have hHeld2 := hH2 rfl hHeld
            clear hK Kz hHeld hH2
            have hHeld := hHeld2
            clear hHeld2
            (try simp only [Act.put, List.setIfInBounds_toArray, List.set_cons_zero, List.set_cons_succ])
            refine anyV_take (i := 7) (oi := { dst := some 28, op := Op.move (Operand.tmp 35), type := 74, pos := "database.go:179", after := #[{ on := 6, ground := Ground.data }], guard := none }) (v := ?_) rfl (by kernel_rfl) (by kernel_rfl) (by kernel_rfl) (by kernel_rfl) (by kernel_rfl) (fun _ _ _ h => h) (Or.inl ⟨by rfl, ?_⟩) hHeld ?_
            rotate_left 1
            · intro u hSu
              obtain ⟨q0, q1, q2, q3, q4⟩ := rda_at hSu.out.db HB.out.1
              have hab := hSu.out.ab
              rw [HAA.out.2.2] at hab
              obtain ⟨c0, c1, c2, c3, c4⟩ := row5 hab
              go_simp
              first | done | with_reducible rfl
            (try simp only [Act.put, List.setIfInBounds_toArray, List.set_cons_zero, List.set_cons_succ])
            refine anyV_take (i := 8) (oi := { dst := some 36, op := Op.extract (Operand.tmp 28) 0, type := 73, pos := "database.go:179", after := #[{ on := 7, ground := Ground.data }], guard := none }) (v := ?_) rfl (by kernel_rfl) (by kernel_rfl) (by kernel_rfl) (by kernel_rfl) (by kernel_rfl) (fun _ _ _ h => h) (Or.inl ⟨by rfl, ?_⟩) hHeld ?_
            rotate_left 1
            · intro u hSu
              obtain ⟨q0, q1, q2, q3, q4⟩ := rda_at hSu.out.db HB.out.1
              have hab := hSu.out.ab
              rw [HAA.out.2.2] at hab
              obtain ⟨c0, c1, c2, c3, c4⟩ := row5 hab
              go_simp
              first | done | with_reducible rfl
            (try simp only [Act.put, List.setIfInBounds_toArray, List.set_cons_zero, List.set_cons_succ])
            refine anyV_ready (rs := [9, 10]) (by kernel_rfl) (by simp) ?_
            refine EachV.cons (o := { dst := some 37, op := Op.extract (Operand.tmp 28) 1, type := 4, pos := "database.go:179", after := #[{ on := 7, ground := Ground.data }, { on := 11, ground := Ground.gcOnly Departure.lateStores }], guard := none }) rfl (fun Kz hK => ?_) (EachV.cons (o := { dst := some 10, op := Op.alloc 73, type := 0, pos := "database.go:179", after := #[], guard := none }) rfl (fun Kz hK => ?_) EachV.nil)
            · go_simp
              refine hK.out _ _ (fun _ h => h) (fun _ => ?_)
              clear hK Kz
              (try simp only [Act.put, List.setIfInBounds_toArray, List.set_cons_zero, List.set_cons_succ])
              refine anyV_ready (rs := [10]) (by kernel_rfl) (by simp) ?_
              refine EachV.cons (o := { dst := some 10, op := Op.alloc 73, type := 0, pos := "database.go:179", after := #[], guard := none }) rfl (fun Kz hK => ?_) EachV.nil
              go_simp
              try have HE2 := Lib.hid (hHeld.out.keep (World.grownBy_alloc _ (.cells #[.int .i64 (rcV B ar).a, .int .i64 (rcV B ar).b, .int .i64 (rcV B ar).c] 73) none))
              have HSN := hHeld.out.nr
              have hHn := Lib.hid (hHeld.out.keep (World.grownBy_alloc _ (.cells #[.int .i64 0, .int .i64 0, .int .i64 0] 73) none))
              have HS9 := Lib.hid HSN
              clear HSN
              refine hK.out _ _ (fun _ _ => hHn) (fun hH2 => ?_)
              have hHeld2 := hH2 rfl hHeld
              clear hK Kz hHeld hH2
              have hHeld := hHeld2
              clear hHeld2
              (try simp only [Act.put, List.setIfInBounds_toArray, List.set_cons_zero, List.set_cons_succ])
              refine anyV_ready (rs := [11]) (by kernel_rfl) (by simp) ?_
              refine EachV.cons (o := { dst := none, op := Op.store 73 (Operand.tmp 10) (Operand.tmp 36), type := 0, pos := "database.go:179", after := #[{ on := 10, ground := Ground.data }, { on := 8, ground := Ground.data }, { on := 6, ground := Ground.chain }, { on := 0, ground := Ground.phase }, { on := 1, ground := Ground.phase }, { on := 2, ground := Ground.phase }, { on := 3, ground := Ground.phase }, { on := 4, ground := Ground.phase }, { on := 5, ground := Ground.phase }, { on := 6, ground := Ground.phase }, { on := 7, ground := Ground.phase }, { on := 8, ground := Ground.phase }, { on := 9, ground := Ground.textOnly Departure.lateStores }, { on := 10, ground := Ground.phase }], guard := none }) rfl (fun Kz hK => ?_) EachV.nil
              have hna := HS9.out _ (by first | rfl | simp)
              obtain ⟨k0, k1, k2⟩ := row3 hna.ab
              have f0 := frozen_of_row _ _ 0 _ _ hna.ab
              have f1 := frozen_of_row _ _ 1 _ _ hna.ab
              have f2 := frozen_of_row _ _ 2 _ _ hna.ab
              try (have hna2 : NR w _ w2.heap.size _ := hna; obtain ⟨j0, j1, j2⟩ := row3 hna2.ab; have g0 := frozen_of_row _ _ 0 _ _ hna2.ab; have g1 := frozen_of_row _ _ 1 _ _ hna2.ab; have g2 := frozen_of_row _ _ 2 _ _ hna2.ab)
              have HE := Lib.hid (hHeld.out.put hna (rcV B ar).a (rcV B ar).b (rcV B ar).c)
              go_simp
              refine hK.out _ _ (fun h => by cases h) (fun _ => ?_)
              clear hK Kz
              (try simp only [Act.put, List.setIfInBounds_toArray, List.set_cons_zero, List.set_cons_succ])
              refine anyV_ready (rs := [12]) (by kernel_rfl) (by simp) ?_
              refine EachV.cons (o := { dst := some 11, op := Op.assign (Operand.tmp 37), type := 4, pos := "database.go:179", after := #[{ on := 9, ground := Ground.data }, { on := 11, ground := Ground.chain }, { on := 0, ground := Ground.phase }, { on := 1, ground := Ground.phase }, { on := 2, ground := Ground.phase }, { on := 3, ground := Ground.phase }, { on := 4, ground := Ground.phase }, { on := 5, ground := Ground.phase }, { on := 6, ground := Ground.phase }, { on := 7, ground := Ground.phase }, { on := 8, ground := Ground.phase }, { on := 9, ground := Ground.phase }, { on := 10, ground := Ground.phase }, { on := 11, ground := Ground.phase }], guard := none }) rfl (fun Kz hK => ?_) EachV.nil
              go_simp
              refine hK.out _ _ (fun h => by cases h) (fun _ => ?_)
              clear hK Kz
              (try simp only [Act.put, List.setIfInBounds_toArray, List.set_cons_zero, List.set_cons_succ])
              refine anyV_done (by kernel_rfl) ?_ _
              clear HD HS9
              go_wp2_with fail
              go_meet
              first | exact ⟨rfl, HE⟩ | exact ⟨rfl, HE2⟩
            · go_simp
              try have HE2 := Lib.hid (hHeld.out.keep (World.grownBy_alloc _ (.cells #[.int .i64 (rcV B ar).a, .int .i64 (rcV B ar).b, .int .i64 (rcV B ar).c] 73) none))
              have HSN := hHeld.out.nr
              have hHn := Lib.hid (hHeld.out.keep (World.grownBy_alloc _ (.cells #[.int .i64 0, .int .i64 0, .int .i64 0] 73) none))
              have HS9 := Lib.hid HSN
              clear HSN
              refine hK.out _ _ (fun _ _ => hHn) (fun hH2 => ?_)
              have hHeld2 := hH2 rfl hHeld
              clear hK Kz hHeld hH2
              have hHeld := hHeld2
              clear hHeld2
              (try simp only [Act.put, List.setIfInBounds_toArray, List.set_cons_zero, List.set_cons_succ])
              refine anyV_ready (rs := [9, 11]) (by kernel_rfl) (by simp) ?_
              refine EachV.cons (o := { dst := some 37, op := Op.extract (Operand.tmp 28) 1, type := 4, pos := "database.go:179", after := #[{ on := 7, ground := Ground.data }, { on := 11, ground := Ground.gcOnly Departure.lateStores }], guard := none }) rfl (fun Kz hK => ?_) (EachV.cons (o := { dst := none, op := Op.store 73 (Operand.tmp 10) (Operand.tmp 36), type := 0, pos := "database.go:179", after := #[{ on := 10, ground := Ground.data }, { on := 8, ground := Ground.data }, { on := 6, ground := Ground.chain }, { on := 0, ground := Ground.phase }, { on := 1, ground := Ground.phase }, { on := 2, ground := Ground.phase }, { on := 3, ground := Ground.phase }, { on := 4, ground := Ground.phase }, { on := 5, ground := Ground.phase }, { on := 6, ground := Ground.phase }, { on := 7, ground := Ground.phase }, { on := 8, ground := Ground.phase }, { on := 9, ground := Ground.textOnly Departure.lateStores }, { on := 10, ground := Ground.phase }], guard := none }) rfl (fun Kz hK => ?_) EachV.nil)
              · go_simp
                refine hK.out _ _ (fun _ h => h) (fun _ => ?_)
                clear hK Kz
                (try simp only [Act.put, List.setIfInBounds_toArray, List.set_cons_zero, List.set_cons_succ])
                refine anyV_ready (rs := [11]) (by kernel_rfl) (by simp) ?_
                refine EachV.cons (o := { dst := none, op := Op.store 73 (Operand.tmp 10) (Operand.tmp 36), type := 0, pos := "database.go:179", after := #[{ on := 10, ground := Ground.data }, { on := 8, ground := Ground.data }, { on := 6, ground := Ground.chain }, { on := 0, ground := Ground.phase }, { on := 1, ground := Ground.phase }, { on := 2, ground := Ground.phase }, { on := 3, ground := Ground.phase }, { on := 4, ground := Ground.phase }, { on := 5, ground := Ground.phase }, { on := 6, ground := Ground.phase }, { on := 7, ground := Ground.phase }, { on := 8, ground := Ground.phase }, { on := 9, ground := Ground.textOnly Departure.lateStores }, { on := 10, ground := Ground.phase }], guard := none }) rfl (fun Kz hK => ?_) EachV.nil
                have hna := HS9.out _ (by first | rfl | simp)
                obtain ⟨k0, k1, k2⟩ := row3 hna.ab
                have f0 := frozen_of_row _ _ 0 _ _ hna.ab
                have f1 := frozen_of_row _ _ 1 _ _ hna.ab
                have f2 := frozen_of_row _ _ 2 _ _ hna.ab
                try (have hna2 : NR w _ w2.heap.size _ := hna; obtain ⟨j0, j1, j2⟩ := row3 hna2.ab; have g0 := frozen_of_row _ _ 0 _ _ hna2.ab; have g1 := frozen_of_row _ _ 1 _ _ hna2.ab; have g2 := frozen_of_row _ _ 2 _ _ hna2.ab)
                have HE := Lib.hid (hHeld.out.put hna (rcV B ar).a (rcV B ar).b (rcV B ar).c)
                go_simp
                refine hK.out _ _ (fun h => by cases h) (fun _ => ?_)
                clear hK Kz
                (try simp only [Act.put, List.setIfInBounds_toArray, List.set_cons_zero, List.set_cons_succ])
                refine anyV_ready (rs := [12]) (by kernel_rfl) (by simp) ?_
                refine EachV.cons (o := { dst := some 11, op := Op.assign (Operand.tmp 37), type := 4, pos := "database.go:179", after := #[{ on := 9, ground := Ground.data }, { on := 11, ground := Ground.chain }, { on := 0, ground := Ground.phase }, { on := 1, ground := Ground.phase }, { on := 2, ground := Ground.phase }, { on := 3, ground := Ground.phase }, { on := 4, ground := Ground.phase }, { on := 5, ground := Ground.phase }, { on := 6, ground := Ground.phase }, { on := 7, ground := Ground.phase }, { on := 8, ground := Ground.phase }, { on := 9, ground := Ground.phase }, { on := 10, ground := Ground.phase }, { on := 11, ground := Ground.phase }], guard := none }) rfl (fun Kz hK => ?_) EachV.nil
                go_simp
                refine hK.out _ _ (fun h => by cases h) (fun _ => ?_)
                clear hK Kz
                (try simp only [Act.put, List.setIfInBounds_toArray, List.set_cons_zero, List.set_cons_succ])
                refine anyV_done (by kernel_rfl) ?_ _
                clear HD HS9
                go_wp2_with fail
                go_meet
                first | exact ⟨rfl, HE⟩ | exact ⟨rfl, HE2⟩
              · have hna := HS9.out _ (by first | rfl | simp)
                obtain ⟨k0, k1, k2⟩ := row3 hna.ab
                have f0 := frozen_of_row _ _ 0 _ _ hna.ab
                have f1 := frozen_of_row _ _ 1 _ _ hna.ab
                have f2 := frozen_of_row _ _ 2 _ _ hna.ab
                try (have hna2 : NR w _ w2.heap.size _ := hna; obtain ⟨j0, j1, j2⟩ := row3 hna2.ab; have g0 := frozen_of_row _ _ 0 _ _ hna2.ab; have g1 := frozen_of_row _ _ 1 _ _ hna2.ab; have g2 := frozen_of_row _ _ 2 _ _ hna2.ab)
                have HE := Lib.hid (hHeld.out.put hna (rcV B ar).a (rcV B ar).b (rcV B ar).c)
                go_simp
                refine hK.out _ _ (fun h => by cases h) (fun _ => ?_)
                clear hK Kz
                (try simp only [Act.put, List.setIfInBounds_toArray, List.set_cons_zero, List.set_cons_succ])
                refine anyV_ready (rs := [9]) (by kernel_rfl) (by simp) ?_
                refine EachV.cons (o := { dst := some 37, op := Op.extract (Operand.tmp 28) 1, type := 4, pos := "database.go:179", after := #[{ on := 7, ground := Ground.data }, { on := 11, ground := Ground.gcOnly Departure.lateStores }], guard := none }) rfl (fun Kz hK => ?_) EachV.nil
                go_simp
                refine hK.out _ _ (fun _ h => h) (fun _ => ?_)
                clear hK Kz
                (try simp only [Act.put, List.setIfInBounds_toArray, List.set_cons_zero, List.set_cons_succ])
                refine anyV_ready (rs := [12]) (by kernel_rfl) (by simp) ?_
                refine EachV.cons (o := { dst := some 11, op := Op.assign (Operand.tmp 37), type := 4, pos := "database.go:179", after := #[{ on := 9, ground := Ground.data }, { on := 11, ground := Ground.chain }, { on := 0, ground := Ground.phase }, { on := 1, ground := Ground.phase }, { on := 2, ground := Ground.phase }, { on := 3, ground := Ground.phase }, { on := 4, ground := Ground.phase }, { on := 5, ground := Ground.phase }, { on := 6, ground := Ground.phase }, { on := 7, ground := Ground.phase }, { on := 8, ground := Ground.phase }, { on := 9, ground := Ground.phase }, { on := 10, ground := Ground.phase }, { on := 11, ground := Ground.phase }], guard := none }) rfl (fun Kz hK => ?_) EachV.nil
                go_simp
                refine hK.out _ _ (fun h => by cases h) (fun _ => ?_)
                clear hK Kz
                (try simp only [Act.put, List.setIfInBounds_toArray, List.set_cons_zero, List.set_cons_succ])
                refine anyV_done (by kernel_rfl) ?_ _
                clear HD HS9
                go_wp2_with fail
                go_meet
                first | exact ⟨rfl, HE⟩ | exact ⟨rfl, HE2⟩
          · go_simp
            try have HE2 := Lib.hid (hHeld.out.keep (World.grownBy_alloc _ (.cells #[.int .i64 (rcV B ar).a, .int .i64 (rcV B ar).b, .int .i64 (rcV B ar).c] 73) none))
            have HSN := hHeld.out.nr
            have hHn := Lib.hid (hHeld.out.keep (World.grownBy_alloc _ (.cells #[.int .i64 0, .int .i64 0, .int .i64 0] 73) none))
            have HS9 := Lib.hid HSN
            clear HSN
            refine hK.out _ _ (fun _ _ => hHn) (fun hH2 => ?_)
            have hHeld2 := hH2 rfl hHeld
            clear hK Kz hHeld hH2
            have hHeld := hHeld2
            clear hHeld2
            (try simp only [Act.put, List.setIfInBounds_toArray, List.set_cons_zero, List.set_cons_succ])
            refine anyV_ready (rs := [6]) (by kernel_rfl) (by simp) ?_
            refine EachV.cons (o := { dst := some 35, op := Op.call { callee := Callee.value (Operand.func 97), args := #[Operand.tmp 32, Operand.tmp 34], argTypes := #[38, 3] }, type := 74, pos := "database.go:179", after := #[{ on := 3, ground := Ground.data }, { on := 5, ground := Ground.data }], guard := none }) rfl (fun Kz hK => ?_) EachV.nil
            go_simp
            go_at_call 97
            refine (dreach_any B ar _ _ (hHeld.out.db.ok B HB.out.2)).mono ?_
            rintro e w5 ⟨rfl, hg⟩
            rw [HBK.out]
            have hHn := Lib.hid (hHeld.out.keep hg)
            try replace HS9 := Lib.hid (show ∀ b, b = _ → _ from fun b hb => (HS9.out b hb).keep hg)
            clear hg
            refine hK.out _ _ (fun _ _ => hHn) (fun hH2 => ?_)
            have hHeld2 := hH2 rfl hHeld
            clear hK Kz hHeld hH2
            have hHeld := hHeld2
            clear hHeld2
            (try simp only [Act.put, List.setIfInBounds_toArray, List.set_cons_zero, List.set_cons_succ])
            refine anyV_take (i := 7) (oi := { dst := some 28, op := Op.move (Operand.tmp 35), type := 74, pos := "database.go:179", after := #[{ on := 6, ground := Ground.data }], guard := none }) (v := ?_) rfl (by kernel_rfl) (by kernel_rfl) (by kernel_rfl) (by kernel_rfl) (by kernel_rfl) (fun _ _ _ h => h) (Or.inl ⟨by rfl, ?_⟩) hHeld ?_
            rotate_left 1
            · intro u hSu
              obtain ⟨q0, q1, q2, q3, q4⟩ := rda_at hSu.out.db HB.out.1
              have hab := hSu.out.ab
              rw [HAA.out.2.2] at hab
              obtain ⟨c0, c1, c2, c3, c4⟩ := row5 hab
              go_simp
              first | done | with_reducible rfl
            (try simp only [Act.put, List.setIfInBounds_toArray, List.set_cons_zero, List.set_cons_succ])
            refine anyV_take (i := 8) (oi := { dst := some 36, op := Op.extract (Operand.tmp 28) 0, type := 73, pos := "database.go:179", after := #[{ on := 7, ground := Ground.data }], guard := none }) (v := ?_) rfl (by kernel_rfl) (by kernel_rfl) (by kernel_rfl) (by kernel_rfl) (by kernel_rfl) (fun _ _ _ h => h) (Or.inl ⟨by rfl, ?_⟩) hHeld ?_
            rotate_left 1
            · intro u hSu
              obtain ⟨q0, q1, q2, q3, q4⟩ := rda_at hSu.out.db HB.out.1
              have hab := hSu.out.ab
              rw [HAA.out.2.2] at hab
              obtain ⟨c0, c1, c2, c3, c4⟩ := row5 hab
              go_simp
              first | done | with_reducible rfl
            (try simp only [Act.put, List.setIfInBounds_toArray, List.set_cons_zero, List.set_cons_succ])
            refine anyV_ready (rs := [9, 11]) (by kernel_rfl) (by simp) ?_
            refine EachV.cons (o := { dst := some 37, op := Op.extract (Operand.tmp 28) 1, type := 4, pos := "database.go:179", after := #[{ on := 7, ground := Ground.data }, { on := 11, ground := Ground.gcOnly Departure.lateStores }], guard := none }) rfl (fun Kz hK => ?_) (EachV.cons (o := { dst := none, op := Op.store 73 (Operand.tmp 10) (Operand.tmp 36), type := 0, pos := "database.go:179", after := #[{ on := 10, ground := Ground.data }, { on := 8, ground := Ground.data }, { on := 6, ground := Ground.chain }, { on := 0, ground := Ground.phase }, { on := 1, ground := Ground.phase }, { on := 2, ground := Ground.phase }, { on := 3, ground := Ground.phase }, { on := 4, ground := Ground.phase }, { on := 5, ground := Ground.phase }, { on := 6, ground := Ground.phase }, { on := 7, ground := Ground.phase }, { on := 8, ground := Ground.phase }, { on := 9, ground := Ground.textOnly Departure.lateStores }, { on := 10, ground := Ground.phase }], guard := none }) rfl (fun Kz hK => ?_) EachV.nil)
            · go_simp
              refine hK.out _ _ (fun _ h => h) (fun _ => ?_)
              clear hK Kz
              (try simp only [Act.put, List.setIfInBounds_toArray, List.set_cons_zero, List.set_cons_succ])
              refine anyV_ready (rs := [11]) (by kernel_rfl) (by simp) ?_
              refine EachV.cons (o := { dst := none, op := Op.store 73 (Operand.tmp 10) (Operand.tmp 36), type := 0, pos := "database.go:179", after := #[{ on := 10, ground := Ground.data }, { on := 8, ground := Ground.data }, { on := 6, ground := Ground.chain }, { on := 0, ground := Ground.phase }, { on := 1, ground := Ground.phase }, { on := 2, ground := Ground.phase }, { on := 3, ground := Ground.phase }, { on := 4, ground := Ground.phase }, { on := 5, ground := Ground.phase }, { on := 6, ground := Ground.phase }, { on := 7, ground := Ground.phase }, { on := 8, ground := Ground.phase }, { on := 9, ground := Ground.textOnly Departure.lateStores }, { on := 10, ground := Ground.phase }], guard := none }) rfl (fun Kz hK => ?_) EachV.nil
              have hna := HS9.out _ (by first | rfl | simp)
              obtain ⟨k0, k1, k2⟩ := row3 hna.ab
              have f0 := frozen_of_row _ _ 0 _ _ hna.ab
              have f1 := frozen_of_row _ _ 1 _ _ hna.ab
              have f2 := frozen_of_row _ _ 2 _ _ hna.ab
              try (have hna2 : NR w _ w2.heap.size _ := hna; obtain ⟨j0, j1, j2⟩ := row3 hna2.ab; have g0 := frozen_of_row _ _ 0 _ _ hna2.ab; have g1 := frozen_of_row _ _ 1 _ _ hna2.ab; have g2 := frozen_of_row _ _ 2 _ _ hna2.ab)
              have HE := Lib.hid (hHeld.out.put hna (rcV B ar).a (rcV B ar).b (rcV B ar).c)
              go_simp
              refine hK.out _ _ (fun h => by cases h) (fun _ => ?_)
              clear hK Kz
              (try simp only [Act.put, List.setIfInBounds_toArray, List.set_cons_zero, List.set_cons_succ])
              refine anyV_ready (rs := [12]) (by kernel_rfl) (by simp) ?_
              refine EachV.cons (o := { dst := some 11, op := Op.assign (Operand.tmp 37), type := 4, pos := "database.go:179", after := #[{ on := 9, ground := Ground.data }, { on := 11, ground := Ground.chain }, { on := 0, ground := Ground.phase }, { on := 1, ground := Ground.phase }, { on := 2, ground := Ground.phase }, { on := 3, ground := Ground.phase }, { on := 4, ground := Ground.phase }, { on := 5, ground := Ground.phase }, { on := 6, ground := Ground.phase }, { on := 7, ground := Ground.phase }, { on := 8, ground := Ground.phase }, { on := 9, ground := Ground.phase }, { on := 10, ground := Ground.phase }, { on := 11, ground := Ground.phase }], guard := none }) rfl (fun Kz hK => ?_) EachV.nil
              go_simp
              refine hK.out _ _ (fun h => by cases h) (fun _ => ?_)
              clear hK Kz
              (try simp only [Act.put, List.setIfInBounds_toArray, List.set_cons_zero, List.set_cons_succ])
              refine anyV_done (by kernel_rfl) ?_ _
              clear HD HS9
              go_wp2_with fail
              go_meet
              first | exact ⟨rfl, HE⟩ | exact ⟨rfl, HE2⟩
            · have hna := HS9.out _ (by first | rfl | simp)
              obtain ⟨k0, k1, k2⟩ := row3 hna.ab
              have f0 := frozen_of_row _ _ 0 _ _ hna.ab
              have f1 := frozen_of_row _ _ 1 _ _ hna.ab
              have f2 := frozen_of_row _ _ 2 _ _ hna.ab
              try (have hna2 : NR w _ w2.heap.size _ := hna; obtain ⟨j0, j1, j2⟩ := row3 hna2.ab; have g0 := frozen_of_row _ _ 0 _ _ hna2.ab; have g1 := frozen_of_row _ _ 1 _ _ hna2.ab; have g2 := frozen_of_row _ _ 2 _ _ hna2.ab)
              have HE := Lib.hid (hHeld.out.put hna (rcV B ar).a (rcV B ar).b (rcV B ar).c)
              go_simp
              refine hK.out _ _ (fun h => by cases h) (fun _ => ?_)
              clear hK Kz
              (try simp only [Act.put, List.setIfInBounds_toArray, List.set_cons_zero, List.set_cons_succ])
              refine anyV_ready (rs := [9]) (by kernel_rfl) (by simp) ?_
              refine EachV.cons (o := { dst := some 37, op := Op.extract (Operand.tmp 28) 1, type := 4, pos := "database.go:179", after := #[{ on := 7, ground := Ground.data }, { on := 11, ground := Ground.gcOnly Departure.lateStores }], guard := none }) rfl (fun Kz hK => ?_) EachV.nil
              go_simp
              refine hK.out _ _ (fun _ h => h) (fun _ => ?_)
              clear hK Kz
              (try simp only [Act.put, List.setIfInBounds_toArray, List.set_cons_zero, List.set_cons_succ])
              refine anyV_ready (rs := [12]) (by kernel_rfl) (by simp) ?_
              refine EachV.cons (o := { dst := some 11, op := Op.assign (Operand.tmp 37), type := 4, pos := "database.go:179", after := #[{ on := 9, ground := Ground.data }, { on := 11, ground := Ground.chain }, { on := 0, ground := Ground.phase }, { on := 1, ground := Ground.phase }, { on := 2, ground := Ground.phase }, { on := 3, ground := Ground.phase }, { on := 4, ground := Ground.phase }, { on := 5, ground := Ground.phase }, { on := 6, ground := Ground.phase }, { on := 7, ground := Ground.phase }, { on := 8, ground := Ground.phase }, { on := 9, ground := Ground.phase }, { on := 10, ground := Ground.phase }, { on := 11, ground := Ground.phase }], guard := none }) rfl (fun Kz hK => ?_) EachV.nil
              go_simp
              refine hK.out _ _ (fun h => by cases h) (fun _ => ?_)
              clear hK Kz
              (try simp only [Act.put, List.setIfInBounds_toArray, List.set_cons_zero, List.set_cons_succ])
              refine anyV_done (by kernel_rfl) ?_ _
              clear HD HS9
              go_wp2_with fail
              go_meet
              first | exact ⟨rfl, HE⟩ | exact ⟨rfl, HE2⟩
        case rest =>
        obtain ⟨rfl, N3⟩ := hcut
        clear N2
        cases bk with
        | false =>
          go_wp2_with fail
          exact ⟨⟨k + 1, by omega, congrArg _ (by omega), ⟨_, _, _, rfl⟩, by rw [HS.out, HL.out, if_neg (by decide), List.append_nil]; exact N3⟩, by simp only [RowKit.intOf]; omega⟩
        | true =>
          obtain ⟨e0, e1, e2, e3, e4⟩ := rda_at N3.out.db HB.out.1
          have HO := Lib.hid N3.out.own
          have hsz := World.lt_of_row' N3.out.ab
          go_wp2_with (at_builtin; refine wpList_append_f adL 5 72 (by decide) adL_len ad_one 38 23 ia _ Try.underlying23 hia hz0 hz1 hz2 rfl (by decide) rfl _ _ rfl (w.heap.size + 1) _ M _ ?c0 rfl (HO.out.alloc _) (some ⟨wc.heap.size, 0, none⟩) 1 1 [B] rfl rfl (by simp) (fun _ => True) (rdf_one _ trivial (fun j u hu => by (first | exact one_rowA _ _ _ _ _ hu | (simp at hu))) 1) (by decide) (by simp; omega) (by simp; omega) ?_)
          try (case c0 => rfl)
          intro v' w9 hown hg
          have N4 := Lib.hid (N3.out.app hown hg)
          obtain ⟨p9, c9, rfl, -, -⟩ := own_shape N4.out.own
          clear hown hg HO N3 e0 e1 e2 e3 e4
          go_wp2_with fail
          exact ⟨⟨k + 1, by omega, congrArg _ (by omega), ⟨_, _, _, rfl⟩, by rw [HS.out, HL.out]; first | (rw [if_pos rfl]; exact N4) | (rw [if_pos trivial]; exact N4)⟩, by simp only [RowKit.intOf]; omega⟩
    · obtain rfl : k = aL.length := by omega
      have hN := N.out
      rw [List.take_length] at hN
      have e : lnk l A = aL.flatMap (lk1 l A) := by unfold lnk; rw [HAA.out.1]
      rw [← e] at hN
      obtain ⟨p9, c9, he, h1, h2⟩ := own_shape hN.own
      injection he with he1 he2 he3
      subst he1 he2 he3
      have H9 : Hid (LnkPost (lnk l A) w (.returned (.slice pv (lnk l A).length cv)) wr) := Lib.hid ⟨pv, cv, rfl, (rdf_of_own2 hN.own).mono (fun b hb => by constructor <;> omega), ⟨h1, h2⟩, hN.gr⟩
      clear hN N
      go_wp2_with fail
      go_ret
      rw [← HAE.out]
      exact H9.out
end Go.Proofs.Ytnpkihioklpnmaa

/- A row of structs that is taken from the front and appended to at the end: a queue. -/
namespace Go.Proofs.Ytnpkihioklpnmaa
open Go.RowKit Bs
/-- Cells xs, n structs of k, lie at the end of a block of the call's own, room behind them. -/
structure Qu (w : World) (base k g off n cap : Nat) (xs : List Value) : Prop where
  ge : base ≤ g
  lt : g < w.heap.size
  le : n ≤ cap
  len : xs.length = n * k
  at_ : ∀ j u, xs[j]? = some u → w.cell? ⟨g, off + j, none⟩ = some u
  spare : ∀ j, j < (cap - n) * k → (w.cell? ⟨g, off + n * k + j, none⟩).isSome = true ∧ w.frozen? ⟨g, off + n * k + j, none⟩ = false
set_option maxRecDepth 100000 in
theorem frozen_far2 {w w' : World} {r : Option Nat} (g : w.grownBy w' r) {a : Addr} (ha : a.block < w.heap.size) (hr : some a.block ≠ r) : w'.frozen? a = w.frozen? a := World.frozen?_of_block (g.block a.block ha hr)
set_option maxRecDepth 100000 in
theorem Qu.grown {w w' : World} {base k g off n cap : Nat} {xs : List Value} {r : Option Nat} (h : Qu w base k g off n cap xs) (gr : w.grownBy w' r) (hr : some g ≠ r) : Qu w' base k g off n cap xs := by
  refine ⟨h.ge, Nat.lt_of_lt_of_le h.lt gr.size, h.le, h.len, fun j u hj => gr.cell (h.at_ j u hj) hr, fun j hj => ?_⟩
  obtain ⟨h1, h2⟩ := h.spare j hj
  obtain ⟨u, hu⟩ := Option.isSome_iff_exists.1 h1
  exact ⟨by rw [gr.cell hu hr]; rfl, by rw [frozen_far2 gr (a := ⟨g, off + n * k + j, none⟩) h.lt hr]; exact h2⟩
set_option maxRecDepth 100000 in
theorem Qu.keep {w w' : World} {base k g off n cap : Nat} {xs : List Value} (h : Qu w base k g off n cap xs) (gr : w.grownBy w' none) : Qu w' base k g off n cap xs := h.grown gr (by simp)
set_option maxRecDepth 100000 in
/-- The first struct is left behind. -/
theorem Qu.pop {w : World} {base k g off n cap : Nat} {xs : List Value} (h : Qu w base k g off (n + 1) cap xs) : Qu w base k g (off + k) n (cap - 1) (xs.drop k) := by
  have hle := h.le
  refine ⟨h.ge, h.lt, by omega, by rw [List.length_drop, h.len, Nat.add_mul]; omega, fun j u hj => ?_, fun j hj => ?_⟩
  · rw [List.getElem?_drop] at hj
    have := h.at_ _ u hj
    rw [← Nat.add_assoc] at this
    exact this
  · have := h.spare j (by rw [show cap - (n + 1) = cap - 1 - n by omega]; exact hj)
    rw [show off + (n + 1) * k + j = off + k + n * k + j by rw [Nat.add_mul]; omega] at this
    exact this
set_option maxRecDepth 100000 in
theorem Qu.of {w : World} {base k n g cap : Nat} {e : TypeId} {xs : List Value} (h : w.ownsRow base e k (.slice (some ⟨g, 0, none⟩) n cap) n xs) : Qu w base k g 0 n cap xs := by
  obtain ⟨h1, h2⟩ := h
  rcases h2 with ⟨e1, _⟩ | ⟨g', cap', cur, hv, hg, hh, hn, hcap, hsz, htake⟩
  · cases e1
  · injection hv with hv1 hv2 hv3
    injection hv1 with hv1
    injection hv1 with hv1
    subst hv1 hv3
    have hc : ∀ o, w.cell? ⟨g, o, none⟩ = cur[o]? := fun o => cell_of_row _ _ _ _ _ _ hh
    have hlt : g < w.heap.size := (Array.getElem?_eq_some_iff.1 hh).1
    refine ⟨hg, hlt, hn, h1, fun j u hj => ?_, fun j hj => ?_⟩
    · rw [Nat.zero_add, hc, ← Array.getElem?_toList]
      rw [← htake, List.getElem?_take] at hj
      split at hj
      · exact hj
      · cases hj
    · refine ⟨?_, frozen_of_row _ _ _ _ _ hh⟩
      rw [hc, Array.getElem?_eq_getElem (by
        rw [hsz]
        have : (cap - n) * k + n * k = cap * k := by rw [← Nat.add_mul]; congr 1; omega
        omega)]
      rfl
set_option maxRecDepth 100000 in
theorem grown_setCells2 (g : Nat) : ∀ (vs : List Value) (o : Nat) (w : World), w.grownBy (w.setCells g o vs) (some g)
  | [], _, w => grown_refl w _
  | v :: r, o, w => by
    rw [World.setCells]
    exact grown_trans (grown_setCell w ⟨g, o, none⟩ v) (grown_setCells2 g r (o + 1) _)
section
variable {P : Program}
set_option maxRecDepth 100000 in
/-- A struct is appended: in the block, or all in a new one. -/
theorem Qu.push {w : World} {base k g off n cap bytes : Nat} {xs : List Value} (h : Qu w base k g off n cap xs) (t ty e : TypeId) (i : TypeInfo) (z : Value) (ht : P.underlying t = some (.slice e)) (hi : P.info? e = some i) (hz : i.zero = some z) (hsize : i.size = k) (hby : i.bytes = bytes) (hzs : z.cells.size = k) (hk : 0 < k)
    (hbytes : bytes ≤ 1000) (hn : n ≤ 100000) (a : Addr) (c : Nat) (news : List Value) (hl : news.length = k) (hnews : ∀ j u, news[j]? = some u → w.cell? (a.add j) = some u) (h1 : ∀ u ∈ news, u.oneCell' = true) (hbase : base ≤ w.heap.size) :
    ∃ g' off' cap' w', (Builtin.append_ #[t, t] ty #[.slice (some ⟨g, off, none⟩) n cap, .slice (some a) 1 c]).run P w = .ok (.slice (some ⟨g', off', none⟩) (n + 1) cap') w' ∧ Qu w' base k g' off' (n + 1) cap' (xs ++ news) ∧ w.grownBy w' (some g) ∧ (g' = g ∨ w.heap.size ≤ g') := by
  subst hsize
  have hle := h.le
  by_cases hr : n + 1 ≤ cap
  · have hsome : ∀ j, j < news.length → (w.cell? ⟨g, off + n * i.size + j, none⟩).isSome = true ∧ w.frozen? ⟨g, off + n * i.size + j, none⟩ = false := fun j hj => h.spare j (by
      have : 1 * i.size ≤ (cap - n) * i.size := Nat.mul_le_mul_right _ (by omega)
      omega)
    have hrun := run_append_room_cells (P := P) w t ty e i ht hi g off n cap a 1 c news (by omega) hnews h1 hr (fun j hj => (hsome j hj).1) (fun j hj => (hsome j hj).2)
    have hg := grown_setCells2 g news (off + n * i.size) w
    refine ⟨g, off, cap, _, hrun, ⟨h.ge, Nat.lt_of_lt_of_le h.lt hg.size, hr, by rw [List.length_append, h.len, hl, Nat.add_mul]; omega, fun j u hj => ?_, fun j hj => ?_⟩, hg, .inl rfl⟩
    · by_cases hj1 : j < xs.length
      · rw [List.getElem?_append_left hj1] at hj
        rw [World.cell?_setCells_out g _ _ _ _ (fun _ _ => Or.inl (by show off + j < off + n * i.size; have := h.len; omega))]
        exact h.at_ j u hj
      · rw [List.getElem?_append_right (by omega)] at hj
        obtain ⟨hj2, he⟩ := List.getElem?_eq_some_iff.1 hj
        have := World.cell?_setCells_in g news (off + n * i.size) w (fun j hj => (hsome j hj).1) (j - xs.length) hj2
        rw [show off + n * i.size + (j - xs.length) = off + j by have := h.len; omega] at this
        rw [this, he]
    · have he : off + (n + 1) * i.size + j = off + n * i.size + (i.size + j) := by rw [Nat.add_mul]; omega
      have := h.spare (i.size + j) (by
        have : (cap - n) * i.size = (cap - (n + 1)) * i.size + i.size := by rw [show cap - n = cap - (n + 1) + 1 by omega, Nat.add_mul, Nat.one_mul]
        omega)
      rw [he, World.frozen?_setCells, World.cell?_setCells_out g _ _ _ _ (fun _ _ => Or.inr (by show off + n * i.size + news.length ≤ off + n * i.size + (i.size + j); omega))]
      exact this
  · have hb2 : (n + 1) * bytes ≤ 140737488355328 := Nat.le_trans (Nat.mul_le_mul (show n + 1 ≤ 100001 by omega) hbytes) (by decide)
    obtain ⟨v', w', hrun, r1, r2⟩ := run_append_arg_grows (P := P) w t ty e i z i.size bytes ht hi hz rfl hby hzs hk ⟨g, off, none⟩ n cap xs h.len (fun j u hj => by rw [add_plain]; exact h.at_ j u hj) a 1 c news (by omega) hnews (by omega) (by unfold maxLen; omega) hb2
    obtain ⟨p', c', he, h3, h4⟩ := own_shape r1
    rcases r1.2 with ⟨e0, e1⟩ | ⟨g', cap', cur, hv, hg, hh, hn2, hcap, hsz, htake⟩
    · omega
    · subst hv
      have hq := Qu.of r1
      exact ⟨g', 0, cap', w', hrun, ⟨Nat.le_trans hbase hg, hq.lt, hq.le, hq.len, hq.at_, hq.spare⟩, grown_none r2 _, .inr hg⟩
end
end Go.Proofs.Ytnpkihioklpnmaa

/- Maps that say of numbers whether they are in a set. -/
namespace Go.Proofs.Ytnpkihioklpnmaa
open Go.RowKit Go.Maps Bs
def kB (x : Int) : Lit := .int .i64 x
set_option maxRecDepth 100000 in
theorem kB_key (x : Int) : WideAt.IsKeyLit (kB x) := by unfold kB WideAt.IsKeyLit; trivial
set_option maxRecDepth 100000 in
theorem kB_ne {x y : Int} (h : x ≠ y) : kB x ≠ kB y := fun e => h (by unfold kB at e; injection e)
/-- A map that holds S. -/
structure MB2 (D : DataW Unit) (S : Int → Bool) : Prop where
  td : Tidy D
  at_ : ∀ x, D.atKey (kB x) (.lit (.bool false)) = .lit (.bool (S x))
def putB (S : Int → Bool) (x : Int) : Int → Bool := fun u => if u = x then true else S u
set_option maxRecDepth 100000 in
theorem MB2.nil : MB2 (.map []) (fun _ => false) := ⟨tidy_empty, fun _ => rfl⟩
set_option maxRecDepth 100000 in
theorem MB2.put {D : DataW Unit} {S : Int → Bool} (h : MB2 D S) (x : Int) : MB2 (D.put (kB x) (.lit (.bool true))) (putB S x) := by
  refine ⟨h.td.put (kB_key x) _, fun y => ?_⟩
  unfold putB
  by_cases e : y = x
  · subst e
    rw [if_pos rfl]
    exact atKey_put_same h.td.isMap (kB_key y) _ _
  · rw [if_neg e, atKey_put_other (kB_ne e), h.at_]
set_option maxRecDepth 100000 in
theorem lawB : Keyed Try.prog 3 := int_keyed Try.underlying3
set_option maxRecDepth 100000 in
theorem zeroB (w : World) : (zeroValue 4).run Try.prog w = .ok (.bool false) w := by kernel_rfl
set_option maxRecDepth 100000 in
theorem wfB {x : Int} (h : I64 x) : (Lit.int .i64 x).wf = true := by
  unfold I64 at h
  simp [Lit.wf, IntKind.min, IntKind.max, IntKind.bits, IntKind.signed]
  omega
set_option maxRecDepth 100000 in
theorem plainB_inv {v : Value} {z : DataW Unit × List MemPlace} (h : plainElem Try.prog 4 v = some z) : ∃ b, v = .bool b ∧ z = (.lit (.bool b), []) := by
  unfold plainElem at h
  rw [Try.underlying4] at h
  cases v <;> simp at h
  exact ⟨_, rfl, h.symm⟩
/-- Block b is a map that holds S, written at most n times. -/
def OMb (w : World) (b n : Nat) (S : Int → Bool) : Prop := ∃ D : DataW Unit, w.ownsMap Try.prog 3 (plainElem Try.prog 4) b n D ∧ MB2 D S
set_option maxRecDepth 100000 in
theorem OMb.kept {w w' : World} {b n : Nat} {S : Int → Bool} {r : Option Nat} (h : OMb w b n S) (g : w.grownBy w' r) (hr : some b ≠ r) : OMb w' b n S := by
  obtain ⟨D, h1, h2⟩ := h
  exact ⟨D, h1.kept g hr, h2⟩
set_option maxRecDepth 100000 in
theorem OMb.lt {w : World} {b n : Nat} {S : Int → Bool} (h : OMb w b n S) : b < w.heap.size := by
  obtain ⟨D, h1, h2⟩ := h
  exact h1.lt
set_option maxRecDepth 100000 in
theorem OMb.mono {w : World} {b n m : Nat} {S : Int → Bool} (h : OMb w b n S) (hn : n ≤ m) : OMb w b m S := by
  obtain ⟨D, h1, h2⟩ := h
  exact ⟨D, h1.mono hn, h2⟩
set_option maxRecDepth 100000 in
theorem OMb.made (w : World) : OMb (w.alloc (.map #[] 0)) w.heap.size 0 (fun _ => false) := ⟨_, World.ownsMap_made w _ _ _, MB2.nil⟩
set_option maxRecDepth 100000 in
theorem OMb.put {w : World} {b n : Nat} {S : Int → Bool} (h : OMb w b n S) (hn : n ≤ 1000000) {x : Int} (hx : I64 x) :
    ∃ w', (Instr.mapUpdate 102 (.map (some b)) (.int .i64 x) (.bool true)).run Try.prog w = .ok () w' ∧ OMb w' b (n + 1) (putB S x) ∧ w.grownBy w' (some b) := by
  obtain ⟨D, h1, h2⟩ := h
  obtain ⟨w', r1, r2, r3⟩ := h1.update (t := 102) lawB Try.underlying102 (by unfold maxLen; omega) (keyOf_int_mk Try.underlying3 (wfB hx)) (plainElem_bool Try.underlying4 true)
  exact ⟨w', r1, ⟨_, r2, h2.put x⟩, r3⟩
set_option maxRecDepth 100000 in
theorem OMb.look {w : World} {b n : Nat} {S : Int → Bool} (h : OMb w b n S) {x : Int} (hx : I64 x) :
    (Instr.lookup 102 (.map (some b)) (.int .i64 x) false).run Try.prog w = .ok (.bool (S x)) w := by
  obtain ⟨D, h1, h2⟩ := h
  obtain ⟨v, ps, hrun, hv⟩ := h1.lookup (t := 102) lawB Try.underlying102 (zeroB w) (plainElem_bool Try.underlying4 false) (keyOf_int_mk Try.underlying3 (wfB hx))
  obtain ⟨c, rfl, hc⟩ := plainB_inv hv
  have ha := h2.at_ x
  have hc1 := congrArg Prod.fst hc
  simp only at hc1
  rw [show kB x = .int .i64 x from rfl, hc1] at ha
  injection ha with ha
  injection ha with ha
  rw [hrun, ha]
/-- A map value: nil, or a block that meets q. -/
def MVb (w : World) (q : Nat → Prop) (v : Value) (S : Int → Bool) : Prop :=
  (v = .map none ∧ ∀ x, S x = false) ∨ ∃ b n, v = .map (some b) ∧ q b ∧ n ≤ 1000000 ∧ OMb w b n S
set_option maxRecDepth 100000 in
theorem MVb.grown {w w' : World} {q : Nat → Prop} {v : Value} {S : Int → Bool} {r : Option Nat} (h : MVb w q v S) (g : w.grownBy w' r) (hr : ∀ b, q b → some b ≠ r) : MVb w' q v S := by
  rcases h with h | ⟨b, n, e, hq, hn, h⟩
  · exact .inl h
  · exact .inr ⟨b, n, e, hq, hn, h.kept g (hr b hq)⟩
set_option maxRecDepth 100000 in
theorem MVb.keep {w w' : World} {q : Nat → Prop} {v : Value} {S : Int → Bool} (h : MVb w q v S) (g : w.grownBy w' none) : MVb w' q v S := h.grown g (fun _ _ => by simp)
set_option maxRecDepth 100000 in
theorem MVb.mono {w : World} {q q' : Nat → Prop} {v : Value} {S : Int → Bool} (h : MVb w q v S) (hq : ∀ b, q b → b < w.heap.size → q' b) : MVb w q' v S := by
  rcases h with h | ⟨b, n, e, h1, hn, h⟩
  · exact .inl h
  · exact .inr ⟨b, n, e, hq b h1 h.lt, hn, h⟩
set_option maxRecDepth 100000 in
theorem MVb.look {w : World} {q : Nat → Prop} {v : Value} {S : Int → Bool} (h : MVb w q v S) {x : Int} (hx : I64 x) :
    (Instr.lookup 102 v (.int .i64 x) false).run Try.prog w = .ok (.bool (S x)) w := by
  rcases h with ⟨rfl, hn⟩ | ⟨b, n, rfl, -, -, h⟩
  · rw [hn x]
    exact look_nil false lawB Try.underlying102 (zeroB w) (keyOf_int_mk Try.underlying3 (wfB hx))
  · exact h.look hx
end Go.Proofs.Ytnpkihioklpnmaa

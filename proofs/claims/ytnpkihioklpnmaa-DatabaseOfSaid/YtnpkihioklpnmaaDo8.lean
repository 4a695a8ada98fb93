/- Parts of the proof, packed: AdOfR, ToWiW, ToSort, ToSrt2, ToDfs, ToDfsK, ToDfsW, ToComp, ToComp2, ToCompW, ToConn. -/
import Derived.Test.YtnpkihioklpnmaaDo6
import Derived.Test.YtnpkihioklpnmaaDo7
import Derived.Test.YtnpkihioklpnmaaDo3
import Derived.Test.YtnpkihioklpnmaaDo5
import Derived.BigQuiet
import Derived.Test.YtnpkihioklpnmaaDo4
import Derived.Deep.AppendLies
/- The reference's Of. -/
namespace Go.Proofs.Ytnpkihioklpnmaa
open Go.RowKit Bs
/-- While the reference's Of works: the advert's box, its links, the neighbours. -/
structure RG (W : World) (T : Tg) (C : List T3) (pC : Option Addr) (cC B K : Nat) (x s : Int) (cp : Bool) (pv : Option Addr) (cv : Nat) (M : List T3) (N : List Int) (pN : Option Addr) (cN : Nat) (w : World) : Prop where
  o : OF W T C pC cC w
  ab : w.heap[B]? = some (.cells #[.int .i64 x, .int .i64 s, .bool cp, .slice pv M.length cv, .slice pC C.length cC] 38 (0, 0))
  oL : w.ownsRow K 73 3 (.slice pv M.length cv) M.length (M.flatMap t3C)
  nr : Rd w (fun b => B < b ∧ b < K) (.slice pN N.length cN) (N.map tv)
  lt : W.heap.size + 1 < B ∧ B < K
  sz : K ≤ w.heap.size
/-- While the capacity of a link is sought: its box. -/
structure RIo (W : World) (T : Tg) (C : List T3) (pC : Option Addr) (cC B K : Nat) (x s : Int) (cp : Bool) (pv : Option Addr) (cv : Nat) (M : List T3) (N : List Int) (pN : Option Addr) (cN : Nat) (E : Nat) (n c d : Int) (w : World) : Prop where
  g : RG W T C pC cC B K x s cp pv cv M N pN cN w
  eb : w.heap[E]? = some (.cells #[.int .i64 n, .int .i64 c, .int .i64 d] 73 (0, 0))
  hE : K ≤ E
  ne : (Value.slice pv M.length cv).ownBlock ≠ some E
section
variable {W : World} {T : Tg} {C : List T3} {pC : Option Addr} {cC B K : Nat} {x s : Int} {cp : Bool} {pv : Option Addr} {cv : Nat} {M : List T3} {N : List Int} {pN : Option Addr} {cN : Nat} {w w1 : World}
set_option maxRecDepth 100000 in
theorem RG.keep (h : RG W T C pC cC B K x s cp pv cv M N pN cN w) (g : w.grownBy w1 none) : RG W T C pC cC B K x s cp pv cv M N pN cN w1 :=
  ⟨h.o.keep g, kept_row h.ab g (by simp), h.oL.kept g (by cases hv : (Value.slice pv M.length cv).ownBlock <;> simp), h.nr.keep g, h.lt, Nat.le_trans h.sz g.size⟩
set_option maxRecDepth 100000 in
theorem RG.at_ (h : RG W T C pC cC B K x s cp pv cv M N pN cN w) {b : Nat} (g : w.grownBy w1 (some b)) (hb : K ≤ b) (hne : (Value.slice pv M.length cv).ownBlock ≠ some b) : RG W T C pC cC B K x s cp pv cv M N pN cN w1 := by
  have hlt := h.lt
  refine ⟨h.o.new g (by omega), kept_row h.ab g (fun e => by have := Option.some.inj e; omega), h.oL.kept g ?_, h.nr.grown g (fun a ha e => by have := Option.some.inj e; omega), h.lt, Nat.le_trans h.sz g.size⟩
  cases hv : (Value.slice pv M.length cv).ownBlock with
  | none => exact .inl rfl
  | some g' => exact .inr fun e => hne (hv.trans e)
set_option maxRecDepth 100000 in
theorem RIo.keep {E : Nat} {n c d : Int} (h : RIo W T C pC cC B K x s cp pv cv M N pN cN E n c d w) (g : w.grownBy w1 none) : RIo W T C pC cC B K x s cp pv cv M N pN cN E n c d w1 := ⟨h.g.keep g, kept_row h.eb g (by simp), h.hE, h.ne⟩
set_option maxRecDepth 100000 in
theorem RIo.start {n c : Int} (h : RG W T C pC cC B K x s cp pv cv M N pN cN w) : RIo W T C pC cC B K x s cp pv cv M N pN cN w.heap.size n c 0 (w.alloc (.cells #[.int .i64 n, .int .i64 c, .int .i64 0] 73)) := by
  refine ⟨h.keep (World.grownBy_alloc w _ none), heap_alloc_new w _, h.sz, fun e => ?_⟩
  have := (h.oL.lt _ e).2
  omega
set_option maxRecDepth 100000 in
theorem RIo.put {E : Nat} {n c d : Int} (h : RIo W T C pC cC B K x s cp pv cv M N pN cN E n c d w) (v : Int) : RIo W T C pC cC B K x s cp pv cv M N pN cN E n c v (w.setCell ⟨E, 2, none⟩ (.int .i64 v)) := by
  have g := grown_setCell w ⟨E, 2, none⟩ (.int .i64 v)
  refine ⟨h.g.at_ g h.hE h.ne, ?_, h.hE, h.ne⟩
  have h1 := heap_setCell_same w E 2 _ _ (.int .i64 v) h.eb
  rw [h1]; rfl
set_option maxRecDepth 100000 in
/-- A link has been appended. -/
theorem RG.app {z : T3} {o : Obj} {p' : Option Addr} {c' : Nat} (h : RG W T C pC cC B K x s cp pv cv M N pN cN w) (hown : w1.ownsRow K 73 3 (.slice p' (M.length + 1) c') (M.length + 1) (M.flatMap t3C ++ t3C z)) (hg : (w.alloc o).grownBy w1 (Value.slice pv M.length cv).ownBlock) :
    w1.heap[B]? = some (.cells #[.int .i64 x, .int .i64 s, .bool cp, .slice pv M.length cv, .slice pC C.length cC] 38 (0, 0)) ∧ RG W T C pC cC B K x s cp p' c' (M ++ [z]) N pN cN (w1.setCell ⟨B, 3, none⟩ (.slice p' (M.length + 1) c')) := by
  have hlt := h.lt
  have el : M.length + 1 = (M ++ [z]).length := by rw [List.length_append]; rfl
  have ef : M.flatMap t3C ++ t3C z = (M ++ [z]).flatMap t3C := by rw [List.flatMap_append, List.flatMap_cons, List.flatMap_nil, List.append_nil]
  rw [el, ef] at hown
  rw [el]
  have k0 := World.grownBy_alloc w o none
  have hb : ∀ b, (Value.slice pv M.length cv).ownBlock = some b → K ≤ b := fun b hb => (h.oL.lt b hb).1
  have r1 := kept_row (kept_row h.ab k0 (by simp)) hg (fun e => by have := hb B e.symm; omega)
  have g := grown_setCell w1 ⟨B, 3, none⟩ (.slice p' (M ++ [z]).length c')
  have o1 : OF W T C pC cC w1 := by
    have h0 := h.o.keep k0
    cases hv : (Value.slice pv M.length cv).ownBlock with
    | none => rw [hv] at hg; exact h0.keep hg
    | some b => rw [hv] at hg; exact h0.new hg (by have := hb b hv; omega)
  have n1 := (h.nr.keep k0).grown hg (fun b hb2 e => by have := hb b e.symm; omega)
  refine ⟨r1, o1.new g hlt.1, ?_, own_otherA hown g hlt.2, n1.grown g (fun b hb2 e => by have e2 : b = B := Option.some.inj e; omega), h.lt, Nat.le_trans (Nat.le_trans (Nat.le_trans h.sz k0.size) hg.size) g.size⟩
  have h1 := heap_setCell_same w1 B 3 _ _ (.slice p' (M ++ [z]).length c') r1
  rw [h1]; rfl
end
set_option maxRecDepth 100000 in
theorem nr_at {w : World} {q : Nat → Prop} {p : Option Addr} {c i : Nat} {N : List Int} (h : Rd w q (.slice p N.length c) (N.map tv)) (hi : i < N.length) : ∃ b off, p = some ⟨b, off, none⟩ ∧ ∀ j y, N[j]? = some y → w.cell? ⟨b, off + j, none⟩ = some (.int .i64 y) := by
  obtain ⟨p', c', e, hx⟩ := h
  obtain ⟨b, off, hp, _, hc⟩ := hx (fun hn => by have : (N.map tv).length = 0 := by rw [hn]; rfl
                                                 rw [List.length_map] at this; omega)
  injection e with e1
  exact ⟨b, off, e1.trans hp, fun j y hy => hc j _ (by rw [List.getElem?_map, hy]; rfl)⟩
set_option maxRecDepth 100000 in
theorem rd_both {w : World} {q : Nat → Prop} {v : Value} {xs : List Value} (h : Rd w q v xs) : Rd w (fun b => q b ∧ b < w.heap.size) v xs := by
  obtain ⟨p, c, hv, hc⟩ := h
  refine ⟨p, c, hv, fun hne => ?_⟩
  obtain ⟨b, off, hp, hb, hx⟩ := hc hne
  obtain ⟨x, hx0⟩ : ∃ x, xs[0]? = some x := by
    cases xs with
    | nil => exact absurd rfl hne
    | cons a t => exact ⟨a, rfl⟩
  exact ⟨b, off, hp, ⟨hb, World.block_lt_of_cell? w ⟨b, off + 0, none⟩ (hx 0 x hx0)⟩, hx⟩
set_option maxRecDepth 100000 in
theorem nearR_len (R : List Rt) (L : List Lk) (x : Int) : (nearR R L x).length ≤ R.length := by
  unfold nearR
  rw [List.length_map]
  exact List.length_filter_le _ _
/-- What Of returns, and where its lists lie. -/
def OfPostN (R : List Rt) (L : List Lk) (x s : Int) (C : List T3) (pC : Option Addr) (cC : Nat) (w : World) (e : Ending) (w' : World) : Prop :=
  ∃ X : Ad, e = .returned (.tuple #[X.val, .int .i64 (ofE R L x s C)]) ∧ (AdOk w' (fun b => w.heap.size + 1 < b ∨ (b < w.heap.size ∧ C ≠ [])) X ∧ ((pC = none → cC = 0) → (X.pL = none → X.cL = 0) ∧ (X.pC = none → X.cC = 0))) ∧ w.grownBy w' none ∧ (ofE R L x s C = 0 → smA X (ofA R L x s C)) ∧ (ofE R L x s C ≠ 0 → X = zAo)
set_option maxRecDepth 100000 in
theorem own_nl3 {w : World} {base size n c : Nat} {e : TypeId} {p : Option Addr} {xs : List Value} (h : w.ownsRow base e size (.slice p n c) n xs) : p = none → c = 0 := by
  intro hp
  subst hp
  rcases h.2 with ⟨h1, -⟩ | ⟨g, cap, cur, h1, -⟩
  · injection h1
  · injection h1 with h1; cases h1
set_option maxRecDepth 100000 in
set_option maxHeartbeats 6400000 in
theorem rofN_any (T : Tg) (x s : Int) (C : List T3) (pC : Option Addr) (cC : Nat) (q q2 : Nat → Prop) (w : World) (hT : TgOk w q T) (hC : Rd3 w q2 (.slice pC C.length cC) C) (hc : C.length ≤ cC ∧ cC ≤ 9223372036854775807) :
    Calls Try.prog 41 #[.agg #[.slice T.pR T.R.length T.cR, .slice T.pL T.L.length T.cL], .int .i64 x, .int .i64 s, .slice pC C.length cC] w fun e w' => OfPostN T.R T.L x s C pC cC w e w' := by
  obtain ⟨ir, hir, hr0, hr1, hr2⟩ := info_parts info_re
  have H0 := Lib.hid (OF.start T q q2 hT hC)
  have HCC := Lib.hid hc
  clear hT hC hc
  obtain ⟨R, L, pR, cR, pL, cL⟩ := T
  simp only at H0 ⊢
  go_enter Try.func41, Try.ntmps41
  go_upto_region 1 with fail
  generalize (w.alloc _).alloc _ = wa at *
  obtain ⟨s0, s1⟩ := H0.out.facts
  go_wp2_with fail
  refine (rcheck_any ⟨R, L, pR, cR, pL, cL⟩ _ _ H0.out.t).mono ?_
  rintro e w1 ⟨rfl, hg⟩
  have H1 := Lib.hid (H0.out.keep hg)
  clear H0 hg s0 s1
  simp only
  obtain ⟨z, hz⟩ : ∃ z, chk R L = z := ⟨_, rfl⟩
  rw [hz]
  by_cases hz0 : z = 0
  rotate_left
  · have hzb : (z == 0) = false := by simpa using hz0
    have HE : Hid (ofE R L x s C = 1) := Lib.hid (by unfold ofE; rw [if_pos (by rw [hz]; exact hz0)])
    clear hz
    obtain ⟨d0, d1, d2, d3, d4⟩ := row5 H1.out.rb
    have f0 := frozen_of_row _ _ 0 _ _ H1.out.rb
    have f1 := frozen_of_row _ _ 1 _ _ H1.out.rb
    have f2 := frozen_of_row _ _ 2 _ _ H1.out.rb
    have f3 := frozen_of_row _ _ 3 _ _ H1.out.rb
    have f4 := frozen_of_row _ _ 4 _ _ H1.out.rb
    obtain ⟨t1, t2⟩ := store5 (.int .i64 0) (.int .i64 0) (.bool false) (.slice none 0 0) (.slice none 0 0) H1.out.rb
    have HT := Lib.hid (And.intro t1 (grown_new H1.out.gr t2 (by omega)))
    clear t1 t2
    go_wp2_with fail
    refine bodyPost_ret (res_adv_err rfl _ _ (w.heap.size + 1) _ _ _ _ _ rfl HT.out.1) rfl ?_
    exact ⟨zAo, by rw [HE.out]; rfl, ⟨zAo_ok _ _, fun _ => ⟨fun _ => rfl, fun _ => rfl⟩⟩, HT.out.2, fun h => absurd h (by rw [HE.out]; decide), fun _ => rfl⟩
  subst hz0
  have HOK := Lib.hid (chk_okAll hz)
  have HZ := Lib.hid hz
  have hRl : R.length ≤ 24 := (chk_okAll hz).l1
  have hLl : L.length ≤ 60 := (chk_okAll hz).l2
  clear hz
  obtain ⟨s0, s1⟩ := H1.out.facts
  go_wp2_with fail
  refine (rhasV_any ⟨R, L, pR, cR, pL, cL⟩ x _ _ H1.out.t).mono ?_
  rintro e w2 ⟨rfl, hg⟩
  have H2 := Lib.hid (H1.out.keep hg)
  clear H1 hg s0 s1
  simp only
  obtain ⟨h, hh⟩ : ∃ h, hasV R L x = h := ⟨_, rfl⟩
  rw [hh]
  cases h with
  | false =>
    have HE : Hid (ofE R L x s C = 4) := Lib.hid (by unfold ofE; rw [if_neg (by rw [HZ.out]; decide), if_pos hh])
    clear hh
    obtain ⟨d0, d1, d2, d3, d4⟩ := row5 H2.out.rb
    have f0 := frozen_of_row _ _ 0 _ _ H2.out.rb
    have f1 := frozen_of_row _ _ 1 _ _ H2.out.rb
    have f2 := frozen_of_row _ _ 2 _ _ H2.out.rb
    have f3 := frozen_of_row _ _ 3 _ _ H2.out.rb
    have f4 := frozen_of_row _ _ 4 _ _ H2.out.rb
    obtain ⟨t1, t2⟩ := store5 (.int .i64 0) (.int .i64 0) (.bool false) (.slice none 0 0) (.slice none 0 0) H2.out.rb
    have HT := Lib.hid (And.intro t1 (grown_new H2.out.gr t2 (by omega)))
    clear t1 t2
    go_wp2_with fail
    refine bodyPost_ret (res_adv_err rfl _ _ (w.heap.size + 1) _ _ _ _ _ rfl HT.out.1) rfl ?_
    exact ⟨zAo, by rw [HE.out]; rfl, ⟨zAo_ok _ _, fun _ => ⟨fun _ => rfl, fun _ => rfl⟩⟩, HT.out.2, fun h => absurd h (by rw [HE.out]; decide), fun _ => rfl⟩
  | true =>
    have HE0 : Hid (ofE R L x s C = if vAd (ofA R L x s C) = false then 2 else 0) := Lib.hid (by unfold ofE; rw [if_neg (by rw [HZ.out]; decide), if_neg (by rw [hh]; decide)])
    clear hh
    obtain ⟨s0, s1⟩ := H2.out.facts
    go_wp2_with fail
    refine (rcap_any ⟨R, L, pR, cR, pL, cL⟩ x _ _ H2.out.t).mono ?_
    rintro e w3 ⟨rfl, hg⟩
    have H3 := Lib.hid (H2.out.keep hg)
    clear H2 hg s0 s1
    simp only
    obtain ⟨cp, hcp⟩ : ∃ cp, capV R L x = cp := ⟨_, rfl⟩
    rw [hcp]
    have HCP := Lib.hid hcp
    clear hcp
    have kb := heap_alloc_new w3 (.cells #[.int .i64 x, .int .i64 s, .bool cp, .slice none 0 0, .slice pC C.length cC] 38)
    have kg := World.grownBy_alloc w3 (.cells #[.int .i64 x, .int .i64 s, .bool cp, .slice none 0 0, .slice pC C.length cC] 38) none
    have H4 := Lib.hid (And.intro (H3.out.keep kg) (And.intro kb (And.intro (World.lt_of_row' H3.out.rb) kg.size)))
    have hsz4 : w3.heap.size < (w3.alloc (.cells #[.int .i64 x, .int .i64 s, .bool cp, .slice none 0 0, .slice pC C.length cC] 38)).heap.size := World.lt_of_row' kb
    clear kb kg H3
    go_upto_region 6 with fail
    generalize w3.alloc _ = w4 at *
    generalize w3.heap.size = B at *
    obtain ⟨s0, s1⟩ := H4.out.1.facts
    go_wp2_with fail
    refine (rnear_any ⟨R, L, pR, cR, pL, cL⟩ x _ _ H4.out.1.t (by show R.length ≤ 1000; omega)).mono ?_
    rintro e w5 ⟨pN, cN, rfl, hN, hNl, -, hg⟩
    simp only at hN hNl ⊢
    have hNR := nearR_len R L x
    obtain ⟨N, hNN⟩ : ∃ N, nearR R L x = N := ⟨_, rfl⟩
    rw [hNN] at hN hNl hNR ⊢
    have HNN := Lib.hid hNN
    have H5 : Hid (RG w ⟨R, L, pR, cR, pL, cL⟩ C pC cC B w5.heap.size x s cp none 0 ((N.take 0).map (refE L x)) N pN cN w5) := Lib.hid ⟨H4.out.1.keep hg, kept_row H4.out.2.1 hg (by simp), World.ownsRow_nil _ _ _ _, (rd_both hN).mono (fun b hb => by omega), ⟨H4.out.2.2.1, Nat.lt_of_lt_of_le hsz4 hg.size⟩, Nat.le_refl _⟩
    clear hN hg H4 s0 s1 hsz4 hNN
    obtain ⟨K, hK⟩ : ∃ K, w5.heap.size = K := ⟨_, rfl⟩
    rw [hK] at H5
    clear hK
    go_wp2_with fail
    go_loopw [12] (fun i wr => ∃ k : Nat, k ≤ N.length ∧ i = .int .i64 (k : Int) ∧ ∃ pv cv, Hid (RG w ⟨R, L, pR, cR, pL, cL⟩ C pC cC B K x s cp pv cv ((N.take k).map (refE L x)) N pN cN wr)) (fun i _ => N.length - (RowKit.intOf i).toNat)
    case atStart => exact ⟨0, Nat.zero_le _, rfl, none, 0, H5⟩
    case round =>
      obtain ⟨k, hk, rfl, pv, cv, H⟩ := hrel
      clear H5
      by_cases hlt : k < N.length
      · obtain ⟨n, hn⟩ : ∃ n, N[k]? = some n := ⟨_, List.getElem?_eq_getElem hlt⟩
        obtain ⟨bN, oN, rfl, hcN⟩ := nr_at H.out.nr hlt
        clear hcN
        have HNC : Hid (∀ wz, Rd wz (fun b => B < b ∧ b < K) (.slice (some ⟨bN, oN, none⟩) N.length cN) (N.map tv) → wz.cell? ⟨bN, oN + k, none⟩ = some (.int .i64 n)) := Lib.hid (fun wz hz => by
          obtain ⟨b', off', e, hc⟩ := nr_at hz hlt
          injection e with e
          injection e with e1 e2
          subst e1 e2
          exact hc k n hn)
        have HMS : Hid ((N.take (k + 1)).map (refE L x) = (N.take k).map (refE L x) ++ [refE L x n]) := Lib.hid (by rw [List.take_add_one, hn, List.map_append]; rfl)
        have hMl : ((N.take k).map (refE L x)).length ≤ 100 := by rw [List.length_map, List.length_take]; omega
        obtain ⟨M, hM⟩ : ∃ M, (N.take k).map (refE L x) = M := ⟨_, rfl⟩
        rw [hM] at H HMS hMl
        clear hM hn
        have i0 : (0 : Int) ≤ (k : Int) := by omega
        have i1 : (k : Int) < (N.length : Int) := by omega
        go_upto_region 10 with fail
        have HD := Lib.hid (H.out.keep (grown_drew (grown_refl wr none)))
        clear H
        refine wp_region_held_drew (S := fun w' => Hid (RG w ⟨R, L, pR, cR, pL, cL⟩ C pC cC B K x s cp pv cv M N (some ⟨bN, oN, none⟩) cN w')) (by kernel_rfl) (HD) (fun hHeld => ?_)
        refine wpAnyH_take (i := 0) (oi := { dst := some 44, op := Op.load 59 (Operand.tmp 4), type := 59, pos := "ref.go:162", after := #[], guard := none }) (v := ?_) rfl (by kernel_rfl) (by kernel_rfl) (by kernel_rfl) (fun _ _ _ h => h) (Or.inl ⟨by rfl, ?_⟩) hHeld ?_
        rotate_left 1
        · intro u hSu
          obtain ⟨s0, s1⟩ := hSu.out.o.facts
          have hcN := HNC.out _ hSu.out.nr
          go_simp
          first | done | with_reducible rfl
        (try simp only [Act.put, List.setIfInBounds_toArray, List.set_cons_zero, List.set_cons_succ])
        refine wpAnyH_take (i := 1) (oi := { dst := some 45, op := Op.move (Operand.tmp 1), type := 3, pos := "ref.go:162", after := #[], guard := none }) (v := ?_) rfl (by kernel_rfl) (by kernel_rfl) (by kernel_rfl) (fun _ _ _ h => h) (Or.inl ⟨by rfl, ?_⟩) hHeld ?_
        rotate_left 1
        · intro u hSu
          obtain ⟨s0, s1⟩ := hSu.out.o.facts
          have hcN := HNC.out _ hSu.out.nr
          go_simp
          first | done | with_reducible rfl
        (try simp only [Act.put, List.setIfInBounds_toArray, List.set_cons_zero, List.set_cons_succ])
        refine wpAnyH_take (i := 2) (oi := { dst := some 46, op := Op.move (Operand.tmp 11), type := 22, pos := "ref.go:162", after := #[], guard := none }) (v := ?_) rfl (by kernel_rfl) (by kernel_rfl) (by kernel_rfl) (fun _ _ _ h => h) (Or.inl ⟨by rfl, ?_⟩) hHeld ?_
        rotate_left 1
        · intro u hSu
          obtain ⟨s0, s1⟩ := hSu.out.o.facts
          have hcN := HNC.out _ hSu.out.nr
          go_simp
          first | done | with_reducible rfl
        (try simp only [Act.put, List.setIfInBounds_toArray, List.set_cons_zero, List.set_cons_succ])
        refine wpAnyH_take (i := 3) (oi := { dst := some 47, op := Op.move (Operand.tmp 12), type := 3, pos := "ref.go:162", after := #[], guard := none }) (v := ?_) rfl (by kernel_rfl) (by kernel_rfl) (by kernel_rfl) (fun _ _ _ h => h) (Or.inl ⟨by rfl, ?_⟩) hHeld ?_
        rotate_left 1
        · intro u hSu
          obtain ⟨s0, s1⟩ := hSu.out.o.facts
          have hcN := HNC.out _ hSu.out.nr
          go_simp
          first | done | with_reducible rfl
        (try simp only [Act.put, List.setIfInBounds_toArray, List.set_cons_zero, List.set_cons_succ])
        refine wpAnyH_take (i := 4) (oi := { dst := some 48, op := Op.indexAddr 22 (Operand.tmp 46) (Operand.tmp 47), type := 0, pos := "ref.go:162", after := #[{ on := 2, ground := Ground.data }, { on := 3, ground := Ground.data }], guard := none }) (v := ?_) rfl (by kernel_rfl) (by kernel_rfl) (by kernel_rfl) (fun _ _ _ h => h) (Or.inl ⟨by rfl, ?_⟩) hHeld ?_
        rotate_left 1
        · intro u hSu
          obtain ⟨s0, s1⟩ := hSu.out.o.facts
          have hcN := HNC.out _ hSu.out.nr
          go_simp
          first | done | with_reducible rfl
        (try simp only [Act.put, List.setIfInBounds_toArray, List.set_cons_zero, List.set_cons_succ])
        refine wpAnyH_take (i := 5) (oi := { dst := some 49, op := Op.load 3 (Operand.tmp 48), type := 3, pos := "ref.go:162", after := #[{ on := 4, ground := Ground.data }], guard := none }) (v := ?_) rfl (by kernel_rfl) (by kernel_rfl) (by kernel_rfl) (fun _ _ _ h => h) (Or.inl ⟨by rfl, ?_⟩) hHeld ?_
        rotate_left 1
        · intro u hSu
          obtain ⟨s0, s1⟩ := hSu.out.o.facts
          have hcN := HNC.out _ hSu.out.nr
          go_simp
          first | done | with_reducible rfl
        (try simp only [Act.put, List.setIfInBounds_toArray, List.set_cons_zero, List.set_cons_succ])
        refine wpAnyH_ready (rs := [6]) (by kernel_rfl) (by simp) ?_
        refine AllReadyH.cons (o := { dst := some 50, op := Op.call { callee := Callee.value (Operand.func 75), args := #[Operand.tmp 44, Operand.tmp 45, Operand.tmp 49], argTypes := #[59, 3, 3] }, type := 109, pos := "ref.go:162", after := #[{ on := 0, ground := Ground.data }, { on := 1, ground := Ground.data }, { on := 5, ground := Ground.data }], guard := none }) rfl (fun Kz hK => ?_) AllReadyH.nil
        go_simp
        go_at_call 75
        refine (rprice_any ⟨R, L, pR, cR, pL, cL⟩ x n _ _ hHeld.out.o.t).mono ?_
        rintro e w6 ⟨rfl, hg⟩
        have H6 := Lib.hid (hHeld.out.keep hg)
        clear hg
        refine hK.out _ _ (H6) (fun hH2 => ?_)
        clear hK Kz hHeld
        have hHeld := hH2
        clear hH2
        (try simp only [Act.put, List.setIfInBounds_toArray, List.set_cons_zero, List.set_cons_succ])
        refine wpAnyH_take (i := 7) (oi := { dst := some 43, op := Op.move (Operand.tmp 50), type := 109, pos := "ref.go:162", after := #[{ on := 6, ground := Ground.data }], guard := none }) (v := ?_) rfl (by kernel_rfl) (by kernel_rfl) (by kernel_rfl) (fun _ _ _ h => h) (Or.inl ⟨by rfl, ?_⟩) hHeld ?_
        rotate_left 1
        · intro u hSu
          obtain ⟨s0, s1⟩ := hSu.out.o.facts
          have hcN := HNC.out _ hSu.out.nr
          go_simp
          first | done | with_reducible rfl
        (try simp only [Act.put, List.setIfInBounds_toArray, List.set_cons_zero, List.set_cons_succ])
        refine wpAnyH_take (i := 8) (oi := { dst := some 51, op := Op.extract (Operand.tmp 43) 0, type := 3, pos := "ref.go:162", after := #[{ on := 7, ground := Ground.data }], guard := none }) (v := ?_) rfl (by kernel_rfl) (by kernel_rfl) (by kernel_rfl) (fun _ _ _ h => h) (Or.inl ⟨by rfl, ?_⟩) hHeld ?_
        rotate_left 1
        · intro u hSu
          obtain ⟨s0, s1⟩ := hSu.out.o.facts
          have hcN := HNC.out _ hSu.out.nr
          go_simp
          first | done | with_reducible rfl
        (try simp only [Act.put, List.setIfInBounds_toArray, List.set_cons_zero, List.set_cons_succ])
        refine wpAnyH_take (i := 9) (oi := { dst := some 52, op := Op.extract (Operand.tmp 43) 1, type := 4, pos := "ref.go:162", after := #[{ on := 7, ground := Ground.data }, { on := 10, ground := Ground.gcOnly Departure.lateStores }], guard := none }) (v := ?_) rfl (by kernel_rfl) (by kernel_rfl) (by kernel_rfl) (fun _ _ _ h => h) (Or.inl ⟨by rfl, ?_⟩) hHeld ?_
        rotate_left 1
        · intro u hSu
          obtain ⟨s0, s1⟩ := hSu.out.o.facts
          have hcN := HNC.out _ hSu.out.nr
          go_simp
          first | done | with_reducible rfl
        (try simp only [Act.put, List.setIfInBounds_toArray, List.set_cons_zero, List.set_cons_succ])
        refine wpAnyH_take (i := 10) (oi := { dst := some 13, op := Op.assign (Operand.tmp 51), type := 3, pos := "ref.go:162", after := #[{ on := 8, ground := Ground.data }, { on := 6, ground := Ground.chain }, { on := 0, ground := Ground.phase }, { on := 1, ground := Ground.phase }, { on := 2, ground := Ground.phase }, { on := 3, ground := Ground.phase }, { on := 4, ground := Ground.phase }, { on := 5, ground := Ground.phase }, { on := 6, ground := Ground.phase }, { on := 7, ground := Ground.phase }, { on := 8, ground := Ground.phase }, { on := 9, ground := Ground.textOnly Departure.lateStores }], guard := none }) (v := ?_) rfl (by kernel_rfl) (by kernel_rfl) (by kernel_rfl) (fun _ _ _ h => h) (Or.inl ⟨by rfl, ?_⟩) hHeld ?_
        rotate_left 1
        · intro u hSu
          obtain ⟨s0, s1⟩ := hSu.out.o.facts
          have hcN := HNC.out _ hSu.out.nr
          go_simp
          first | done | with_reducible rfl
        (try simp only [Act.put, List.setIfInBounds_toArray, List.set_cons_zero, List.set_cons_succ])
        refine wpAnyH_take (i := 11) (oi := { dst := some 14, op := Op.assign (Operand.tmp 52), type := 4, pos := "ref.go:162", after := #[{ on := 9, ground := Ground.data }, { on := 10, ground := Ground.chain }, { on := 0, ground := Ground.phase }, { on := 1, ground := Ground.phase }, { on := 2, ground := Ground.phase }, { on := 3, ground := Ground.phase }, { on := 4, ground := Ground.phase }, { on := 5, ground := Ground.phase }, { on := 6, ground := Ground.phase }, { on := 7, ground := Ground.phase }, { on := 8, ground := Ground.phase }, { on := 9, ground := Ground.phase }, { on := 10, ground := Ground.phase }], guard := none }) (v := ?_) rfl (by kernel_rfl) (by kernel_rfl) (by kernel_rfl) (fun _ _ _ h => h) (Or.inl ⟨by rfl, ?_⟩) hHeld ?_
        rotate_left 1
        · intro u hSu
          obtain ⟨s0, s1⟩ := hSu.out.o.facts
          have hcN := HNC.out _ hSu.out.nr
          go_simp
          first | done | with_reducible rfl
        (try simp only [Act.put, List.setIfInBounds_toArray, List.set_cons_zero, List.set_cons_succ])
        refine wpAnyH_done (by kernel_rfl) ?_ _
        clear HD
        obtain ⟨wo, rfl⟩ : ∃ wo, wo = wr := ⟨_, rfl⟩
        clear hHeld
        obtain ⟨c, hc⟩ : ∃ c, (priceV L x n).1 = c := ⟨_, rfl⟩
        have HPC := Lib.hid hc
        rw [hc]
        clear hc
        have hsz1 := H6.out.o.gr.size
        have HI0 : Hid (RIo w ⟨R, L, pR, cR, pL, cL⟩ C pC cC B K x s cp pv cv M N (some ⟨bN, oN, none⟩) cN w6.heap.size n c (capK L x n 0) (w6.alloc (.cells #[.int .i64 n, .int .i64 c, .int .i64 0] 73))) := Lib.hid (by rw [capK_zero]; exact RIo.start H6.out)
        have hcN := HNC.out _ H6.out.nr
        go_upto_region 12 with fail
        clear hcN H6
        generalize w6.alloc _ = w7 at *
        generalize w6.heap.size = E at *
        go_wp2_with fail
        go_loopw [16] (fun a wz => ∃ j : Nat, j ≤ L.length ∧ a = .int .i64 (j : Int) ∧ Hid (RIo w ⟨R, L, pR, cR, pL, cL⟩ C pC cC B K x s cp pv cv M N (some ⟨bN, oN, none⟩) cN E n c (capK L x n j) wz)) (fun a _ => L.length - (RowKit.intOf a).toNat)
        case atStart => exact ⟨0, Nat.zero_le _, rfl, HI0⟩
        case round =>
          obtain ⟨j, hj, rfl, HI⟩ := hrel
          clear HI0
          obtain ⟨s0, s1⟩ := HI.out.g.o.facts
          by_cases hjl : j < L.length
          · obtain ⟨-, b, off, rfl, -, hc⟩ := rdl_cells (L := L) HI.out.g.o.t.l (by omega)
            obtain ⟨m, hm⟩ : ∃ m, L[j]? = some m := ⟨_, List.getElem?_eq_getElem hjl⟩
            obtain ⟨a0, a1, a2, a3, a4⟩ := hc j m hm
            have HCS : Hid (capK L x n (j + 1) = if isLk x n m then m.cp else capK L x n j) := Lib.hid (capK_succ x n hm)
            have j0 : (0 : Int) ≤ (j : Int) := by omega
            have j1 : (j : Int) < (L.length : Int) := by omega
            have gal := World.grownBy_alloc wr (.cells #[.int .i64 m.a, .int .i64 m.b, .int .i64 m.ca, .int .i64 m.cb, .int .i64 m.cp] 71) none
            have HLB := Lib.hid (heap_alloc_new wr (.cells #[.int .i64 m.a, .int .i64 m.b, .int .i64 m.ca, .int .i64 m.cb, .int .i64 m.cp] 71))
            have HI1 := Lib.hid (HI.out.keep gal)
            clear hc hm gal HI
            go_upto_region 16 with fail
            clear a0 a1 a2 a3 a4 s0 s1
            generalize World.alloc _ _ = wy at *
            obtain ⟨d0, d1, d2, d3, d4⟩ := lk_facts HLB.out
            have hcN := HNC.out _ HI1.out.g.nr
            obtain ⟨lo, hlo⟩ : ∃ lo, (if n < x then n else x) = lo := ⟨_, rfl⟩
            obtain ⟨hi, hhi⟩ : ∃ hi, (if n > x then n else x) = hi := ⟨_, rfl⟩
            have HLO : Hid (lo = min x n) := Lib.hid (by rw [← hlo]; split <;> omega)
            have HHI : Hid (hi = max x n) := Lib.hid (by rw [← hhi]; split <;> omega)
            by_cases e1 : m.a = lo
            · have e1' : (m.a == lo) = true := by simpa using e1
              by_cases e2 : m.b = hi
              · have e2' : (m.b == hi) = true := by simpa using e2
                have HC2 : Hid (capK L x n (j + 1) = m.cp) := Lib.hid (by rw [HCS.out, if_pos (isLk_iff.2 ⟨e1.trans HLO.out, e2.trans HHI.out⟩)])
                clear e1 e2
                have HQ : ∀ n2, Hid (RIo w ⟨R, L, pR, cR, some ⟨b, off, none⟩, cL⟩ C pC cC B K x s cp pv cv M N (some ⟨bN, oN, none⟩) cN E n c (capK L x n j) (wy.drewN n2) ∧ (wy.drewN n2).heap[wr.heap.size]? = some (.cells #[.int .i64 m.a, .int .i64 m.b, .int .i64 m.ca, .int .i64 m.cb, .int .i64 m.cp] 71 (0, 0))) := fun n2 => Lib.hid ⟨HI1.out.keep (grown_drewN _ n2 _), kept_row HLB.out (grown_drewN _ n2 none) (by simp)⟩
                go_wp2_with fail
                go_quiet (fail)
                have HQ2 := HQ nq
                clear d0 d1 d2 d3 d4 HQ
                generalize wy.drewN nq = wq at *
                obtain ⟨d0, d1, d2, d3, d4⟩ := lk_facts HQ2.out.2
                have HI2 := Lib.hid HQ2.out.1
                clear HQ2
                have fE := frozen_of_row _ _ 2 _ _ HI2.out.eb
                have cE := (row3 HI2.out.eb).2.2
                have HI3 := Lib.hid (HI2.out.put m.cp)
                clear HI1 HI2 HLB hcN
                go_wp2_with fail
                exact ⟨⟨j + 1, by omega, congrArg _ (by omega), by rw [HC2.out]; exact HI3⟩, by simp only [RowKit.intOf]; omega⟩
              · have e2' : (m.b == hi) = false := by simpa using e2
                have HC2 : Hid (capK L x n (j + 1) = capK L x n j) := Lib.hid (by rw [HCS.out, if_neg (fun h => e2 ((isLk_iff.1 h).2.trans HHI.out.symm))])
                clear e1 e2
                have HQ : ∀ n2, Hid (RIo w ⟨R, L, pR, cR, some ⟨b, off, none⟩, cL⟩ C pC cC B K x s cp pv cv M N (some ⟨bN, oN, none⟩) cN E n c (capK L x n j) (wy.drewN n2)) := fun n2 => Lib.hid (HI1.out.keep (grown_drewN _ n2 _))
                go_wp2_with fail
                go_quiet (fail)
                have HI2 := HQ nq
                clear HI1 HLB hcN d0 d1 d2 d3 d4 HQ
                generalize wy.drewN nq = wq at *
                go_wp2_with fail
                exact ⟨⟨j + 1, by omega, congrArg _ (by omega), by rw [HC2.out]; exact HI2⟩, by simp only [RowKit.intOf]; omega⟩
            · have e1' : (m.a == lo) = false := by simpa using e1
              have HC2 : Hid (capK L x n (j + 1) = capK L x n j) := Lib.hid (by rw [HCS.out, if_neg (fun h => e1 ((isLk_iff.1 h).1.trans HLO.out.symm))])
              clear e1
              have HQ : ∀ n2, Hid (RIo w ⟨R, L, pR, cR, some ⟨b, off, none⟩, cL⟩ C pC cC B K x s cp pv cv M N (some ⟨bN, oN, none⟩) cN E n c (capK L x n j) (wy.drewN n2)) := fun n2 => Lib.hid (HI1.out.keep (grown_drewN _ n2 _))
              go_wp2_with fail
              go_quiet (fail)
              have HI2 := HQ nq
              clear HI1 HLB hcN d0 d1 d2 d3 d4 HQ
              generalize wy.drewN nq = wq at *
              go_wp2_with fail
              exact ⟨⟨j + 1, by omega, congrArg _ (by omega), by rw [HC2.out]; exact HI2⟩, by simp only [RowKit.intOf]; omega⟩
          · obtain rfl : j = L.length := by omega
            obtain ⟨a0, a1, a2, a3, a4⟩ := row5 HI.out.g.ab
            obtain ⟨z0, z1, z2⟩ := row3 HI.out.eb
            have HEN : Hid (refE L x n = ⟨n, c, capK L x n L.length⟩) := Lib.hid (by unfold refE; rw [HPC.out])
            obtain ⟨d, hd⟩ : ∃ d, capK L x n L.length = d := ⟨_, rfl⟩
            rw [hd] at HI HEN z2
            clear hd
            have HO := Lib.hid HI.out.g.oL
            have hsz := HI.out.g.sz
            go_wp2_with (at_builtin; refine wpList_append_f t3C 3 24 (by decide) (fun _ => rfl) t3_one 73 35 ir _ Try.underlying35 hir hr0 hr1 hr2 rfl (by decide) rfl _ _ rfl K _ M _ ?c0 rfl (HO.out.alloc _) (some ⟨wr.heap.size, 0, none⟩) 1 1 [⟨n, c, d⟩] rfl rfl (by simp) (fun _ => True) (rdf_one _ trivial (fun j u hu => by (first | exact one_row _ _ _ _ _ hu | (simp at hu))) 1) (by decide) (by simp; omega) (by simp; omega) ?_)
            try (case c0 => rfl)
            intro v' w9 hown hg
            obtain ⟨p', c', rfl, -, -⟩ := own_shape hown
            have hA := HI.out.g.app hown hg
            rw [← HEN.out] at hA
            obtain ⟨b0, b1, b2, b3, b4⟩ := row5 hA.1
            have fB := frozen_of_row _ _ 3 _ _ hA.1
            have HA := Lib.hid hA.2
            clear hown hg hA HI HO z0 z1 z2 a0 a1 a2 a3 a4
            go_wp2_with fail
            exact ⟨⟨k + 1, by omega, congrArg _ (by omega), p', c', by rw [HMS.out]; exact HA⟩, by simp only [RowKit.intOf]; omega⟩
      · have HV : Hid (N.map (refE L x) = reL L x) := Lib.hid (by rw [← HNN.out]; exact ref_reL HOK.out x)
        obtain rfl : k = N.length := by omega
        rw [List.take_length, HV.out] at H
        obtain ⟨M, hM⟩ : ∃ M, reL L x = M := ⟨_, rfl⟩
        have HXX : Hid (ofA R L x s C = ⟨x, s, cp, M, C, none, 0, none, 0⟩) := Lib.hid (by unfold ofA; rw [HCP.out, hM])
        rw [hM] at H
        clear hM HV
        have HNL := Lib.hid (own_nl3 H.out.oL)
        have hok : AdOk wr (fun b => w.heap.size + 1 < b ∨ (b < w.heap.size ∧ C ≠ [])) ⟨x, s, cp, M, C, pv, cv, pC, cC⟩ := by
          have hlt3 := H.out.lt
          obtain ⟨p', c', e, h1, h2⟩ := own_shape H.out.oL
          injection e with _ _ e
          subst e
          refine ⟨(rdf_of_own H.out.oL).mono (fun b hb => .inl (by omega)), ?_, ⟨h1, h2⟩, HCC.out⟩
          by_cases hC0 : C = []
          · rw [hC0]; exact ⟨pC, cC, rfl, fun h => absurd rfl h⟩
          · exact H.out.o.c.mono (fun b hb => .inr ⟨by omega, hC0⟩)
        have HOK2 := Lib.hid hok
        obtain ⟨a0, a1, a2, a3, a4⟩ := row5 H.out.ab
        clear hok
        go_wp2_with fail
        have hVa := rvalidA_any ⟨x, s, cp, M, C, pv, cv, pC, cC⟩ _ _ HOK2.out
        rw [show vAd ⟨x, s, cp, M, C, pv, cv, pC, cC⟩ = vAd (ofA R L x s C) by rw [HXX.out]; exact vAd_sm2 ⟨rfl, rfl, rfl, rfl, rfl⟩] at hVa
        obtain ⟨v, hv⟩ : ∃ v, vAd (ofA R L x s C) = v := ⟨_, rfl⟩
        rw [hv] at hVa
        refine hVa.mono ?_
        rintro e w7 ⟨rfl, hg⟩
        have H7 := Lib.hid (And.intro (H.out.keep hg) (HOK2.out.keep hg))
        clear H hVa hg a0 a1 a2 a3 a4 HOK2
        cases v with
        | false =>
          have HE : Hid (ofE R L x s C = 2) := Lib.hid (by rw [HE0.out, if_pos hv])
          clear hv HE0
          obtain ⟨d0, d1, d2, d3, d4⟩ := row5 H7.out.1.o.rb
          have f0 := frozen_of_row _ _ 0 _ _ H7.out.1.o.rb
          have f1 := frozen_of_row _ _ 1 _ _ H7.out.1.o.rb
          have f2 := frozen_of_row _ _ 2 _ _ H7.out.1.o.rb
          have f3 := frozen_of_row _ _ 3 _ _ H7.out.1.o.rb
          have f4 := frozen_of_row _ _ 4 _ _ H7.out.1.o.rb
          obtain ⟨t1, t2⟩ := store5 (.int .i64 0) (.int .i64 0) (.bool false) (.slice none 0 0) (.slice none 0 0) H7.out.1.o.rb
          have HT := Lib.hid (And.intro t1 (grown_new H7.out.1.o.gr t2 (by omega)))
          clear t1 t2
          go_wp2_with fail
          refine bodyPost_ret (res_adv_err rfl _ _ (w.heap.size + 1) _ _ _ _ _ rfl HT.out.1) rfl ?_
          exact ⟨zAo, by rw [HE.out]; rfl, ⟨zAo_ok _ _, fun _ => ⟨fun _ => rfl, fun _ => rfl⟩⟩, HT.out.2, fun h => absurd h (by rw [HE.out]; decide), fun _ => rfl⟩
        | true =>
          have HE : Hid (ofE R L x s C = 0) := Lib.hid (by rw [HE0.out, if_neg (by rw [hv]; decide)])
          clear hv HE0
          obtain ⟨a0, a1, a2, a3, a4⟩ := row5 H7.out.1.ab
          obtain ⟨d0, d1, d2, d3, d4⟩ := row5 H7.out.1.o.rb
          have f0 := frozen_of_row _ _ 0 _ _ H7.out.1.o.rb
          have f1 := frozen_of_row _ _ 1 _ _ H7.out.1.o.rb
          have f2 := frozen_of_row _ _ 2 _ _ H7.out.1.o.rb
          have f3 := frozen_of_row _ _ 3 _ _ H7.out.1.o.rb
          have f4 := frozen_of_row _ _ 4 _ _ H7.out.1.o.rb
          obtain ⟨t1, t2⟩ := store5 (.int .i64 x) (.int .i64 s) (.bool cp) (.slice pv M.length cv) (.slice pC C.length cC) H7.out.1.o.rb
          have HT := Lib.hid (And.intro t1 (And.intro (H7.out.2.grown t2 (fun b hb e => by have e := Option.some.inj e; rcases hb with h | h <;> omega)) (grown_new H7.out.1.o.gr t2 (by omega))))
          clear t1 t2 H7
          go_wp2_with fail
          refine bodyPost_ret (res_adv_err rfl _ _ (w.heap.size + 1) _ _ _ _ _ rfl HT.out.1) rfl ?_
          exact ⟨⟨x, s, cp, M, C, pv, cv, pC, cC⟩, by rw [HE.out]; rfl, ⟨HT.out.2.1, fun h => ⟨HNL.out, h⟩⟩, HT.out.2.2, fun _ => by rw [HXX.out]; exact ⟨rfl, rfl, rfl, rfl, rfl⟩, fun h => absurd HE.out h⟩
end Go.Proofs.Ytnpkihioklpnmaa

/- topology: Without, the walk. -/
namespace Go.Proofs.Ytnpkihioklpnmaa
open Go.RowKit Bs
end Go.Proofs.Ytnpkihioklpnmaa

/- slices.Sort of at most twelve numbers of the call's own. -/
namespace Go.Proofs.Ytnpkihioklpnmaa
open Go.RowKit Bs
end Go.Proofs.Ytnpkihioklpnmaa

/- slices.Sort of at most twelve numbers. -/
namespace Go.Proofs.Ytnpkihioklpnmaa
open Go.RowKit Bs
/-- Insertion sort, as a function. -/
def insI (x : Int) : List Int → List Int
  | [] => [x]
  | y :: l => if x ≤ y then x :: y :: l else y :: insI x l
def srt : List Int → List Int
  | [] => []
  | x :: l => insI x (srt l)
set_option maxRecDepth 100000 in
theorem insI_perm (x : Int) : ∀ l, (insI x l).Perm (x :: l)
  | [] => List.Perm.refl _
  | y :: l => by
    rw [insI]
    split
    · exact List.Perm.refl _
    · exact ((insI_perm x l).cons y).trans (List.Perm.swap x y l)
set_option maxRecDepth 100000 in
theorem srt_perm : ∀ l, (srt l).Perm l
  | [] => List.Perm.refl _
  | x :: l => (insI_perm x _).trans ((srt_perm l).cons x)
set_option maxRecDepth 100000 in
theorem insI_sorted (x : Int) : ∀ l : List Int, l.Pairwise (· ≤ ·) → (insI x l).Pairwise (· ≤ ·)
  | [], _ => by simp [insI]
  | y :: l, h => by
    rw [insI]
    split
    · rename_i hxy
      rw [List.pairwise_cons]
      refine ⟨fun z hz => ?_, h⟩
      rcases List.mem_cons.1 hz with rfl | hz
      · exact hxy
      · exact Int.le_trans hxy ((List.pairwise_cons.1 h).1 z hz)
    · rename_i hxy
      rw [List.pairwise_cons]
      refine ⟨fun z hz => ?_, insI_sorted x l (List.pairwise_cons.1 h).2⟩
      have := (insI_perm x l).mem_iff.1 hz
      rcases List.mem_cons.1 this with rfl | hz
      · omega
      · exact (List.pairwise_cons.1 h).1 z hz
set_option maxRecDepth 100000 in
theorem srt_sorted : ∀ l, (srt l).Pairwise (· ≤ ·)
  | [] => List.Pairwise.nil
  | x :: l => insI_sorted x _ (srt_sorted l)
end Go.Proofs.Ytnpkihioklpnmaa

/- topology: what Components' join visits; what memory holds while it runs. -/
namespace Go.Proofs.Ytnpkihioklpnmaa
open Go.RowKit Bs
/-- The routers that are visited from r on, behind those that are visited already. -/
def dfs (L : List Lk) : Nat → Int → List Int → List Int
  | 0, _, S => S
  | k + 1, r, S => (nbL L r).foldl (fun S n => if hasI S n then S else dfs L k n S) (S ++ [r])
def dstep (L : List Lk) (k : Nat) (S : List Int) (n : Int) : List Int := if hasI S n then S else dfs L k n S
set_option maxRecDepth 100000 in
theorem dfs_succ (L : List Lk) (k : Nat) (r : Int) (S : List Int) : dfs L (k + 1) r S = (nbL L r).foldl (dstep L k) (S ++ [r]) := rfl
set_option maxRecDepth 100000 in
theorem dstep_ext (L : List Lk) (k : Nat) (h : ∀ r S, ∃ T, dfs L k r S = S ++ T) (S : List Int) (n : Int) : ∃ T, dstep L k S n = S ++ T := by
  unfold dstep
  split
  · exact ⟨[], by simp⟩
  · exact h n S
set_option maxRecDepth 100000 in
theorem fold_ext {f : List Int → Int → List Int} (h : ∀ S n, ∃ T, f S n = S ++ T) : ∀ (N : List Int) (S : List Int), ∃ T, N.foldl f S = S ++ T
  | [], S => ⟨[], by simp⟩
  | n :: N, S => by
    obtain ⟨T, hT⟩ := h S n
    obtain ⟨U, hU⟩ := fold_ext h N (f S n)
    exact ⟨T ++ U, by rw [List.foldl_cons, hU, hT, List.append_assoc]⟩
set_option maxRecDepth 100000 in
theorem dfs_ext (L : List Lk) : ∀ (k : Nat) (r : Int) (S : List Int), ∃ T, dfs L k r S = S ++ T
  | 0, _, S => ⟨[], by simp [dfs]⟩
  | k + 1, r, S => by
    obtain ⟨T, hT⟩ := fold_ext (dstep_ext L k (dfs_ext L k)) (nbL L r) (S ++ [r])
    exact ⟨[r] ++ T, by rw [dfs_succ, hT, List.append_assoc]⟩
set_option maxRecDepth 100000 in
theorem hasI_app (S T : List Int) (x : Int) : hasI (S ++ T) x = (hasI S x || hasI T x) := by
  unfold hasI
  rw [List.any_append]
/-- How many of the numbers are not visited. -/
def notS (S : List Int) (i : Nat) : Bool := !hasI S (i : Int)
def uns (S : List Int) : Nat := (List.range 100).countP (notS S)
set_option maxRecDepth 100000 in
theorem notS_app (S T : List Int) (i : Nat) (h : notS (S ++ T) i = true) : notS S i = true := by
  unfold notS at *
  rw [hasI_app] at h
  cases h1 : hasI S (i : Int)
  · rfl
  · rw [h1] at h; simp at h
set_option maxRecDepth 100000 in
theorem count_le {p q : Nat → Bool} (h : ∀ i, q i = true → p i = true) : ∀ l : List Nat, l.countP q ≤ l.countP p
  | [] => Nat.le_refl _
  | a :: l => by
    have h1 := count_le h l
    rw [List.countP_cons, List.countP_cons]
    have h2 := h a
    cases hq : q a
    · simp; omega
    · rw [h2 hq]; simp; omega
set_option maxRecDepth 100000 in
theorem count_lt {p q : Nat → Bool} (h : ∀ i, q i = true → p i = true) {n : Nat} (hp : p n = true) (hq : q n = false) : ∀ l : List Nat, n ∈ l → l.countP q + 1 ≤ l.countP p
  | [], hn => by cases hn
  | a :: l, hn => by
    rw [List.countP_cons, List.countP_cons]
    rcases List.mem_cons.1 hn with e | hn
    · subst e
      rw [hp, hq]
      have := count_le h l
      simp; omega
    · have h1 := count_lt h hp hq l hn
      have h2 := h a
      cases hqa : q a
      · simp; omega
      · rw [h2 hqa]; simp; omega
set_option maxRecDepth 100000 in
theorem uns_app (S T : List Int) : uns (S ++ T) ≤ uns S :=
  count_le (notS_app S T) _
set_option maxRecDepth 100000 in
theorem uns_snoc {S : List Int} {n : Nat} (hn : n < 100) (h : hasI S (n : Int) = false) : uns (S ++ [(n : Int)]) + 1 ≤ uns S :=
  count_lt (notS_app S [(n : Int)]) (n := n) (by unfold notS; rw [h]; rfl) (by unfold notS; rw [hasI_app]; unfold hasI; simp) _ (by simpa using hn)
set_option maxRecDepth 100000 in
theorem uns_pos {S : List Int} {n : Nat} (hn : n < 100) (h : hasI S (n : Int) = false) : 0 < uns S := by
  have := uns_snoc hn h
  omega
end Go.Proofs.Ytnpkihioklpnmaa

/- topology: what memory keeps while a component grows. -/
namespace Go.Proofs.Ytnpkihioklpnmaa
open Go.RowKit Bs
end Go.Proofs.Ytnpkihioklpnmaa

/- topology: join, the closure of Components. -/
namespace Go.Proofs.Ytnpkihioklpnmaa
open Go.RowKit Bs
end Go.Proofs.Ytnpkihioklpnmaa

/- topology: Components: the mathematics; what memory holds while it runs. -/
namespace Go.Proofs.Ytnpkihioklpnmaa
open Go.RowKit Bs
def cstep (L : List Lk) (st : List (List Int) × List Int) (r : Rt) : List (List Int) × List Int :=
  if hasI st.2 r.id then st else (st.1 ++ [srt ((dfs L 100 r.id st.2).drop st.2.length)], dfs L 100 r.id st.2)
def compsF (L : List Lk) (R : List Rt) : List (List Int) × List Int := R.foldl (cstep L) ([], [])
/-- The components. -/
def comps (R : List Rt) (L : List Lk) : List (List Int) := if okT R L then (compsF L R).1 else []
set_option maxRecDepth 100000 in
theorem compsF_take {L : List Lk} {R : List Rt} {k : Nat} {r : Rt} (h : R[k]? = some r) : compsF L (R.take (k + 1)) = cstep L (compsF L (R.take k)) r := by
  unfold compsF
  rw [List.take_add_one, h, List.foldl_append]
  rfl
set_option maxRecDepth 100000 in
theorem Rd.lt {w : World} {q : Nat → Prop} {v : Value} {vs : List Value} (h : Rd w q v vs) : Rd w (fun b => q b ∧ b < w.heap.size) v vs := by
  obtain ⟨p, c, hv, hc⟩ := h
  refine ⟨p, c, hv, fun hne => ?_⟩
  obtain ⟨b, off, hp, hb, hx⟩ := hc hne
  refine ⟨b, off, hp, ⟨hb, ?_⟩, hx⟩
  cases vs with
  | nil => exact absurd rfl hne
  | cons x vs =>
    have hcell := hx 0 x rfl
    rcases Nat.lt_or_ge b w.heap.size with h1 | h1
    · exact h1
    · unfold World.cell? at hcell
      rw [Array.getElem?_eq_none h1] at hcell
      cases hcell
end Go.Proofs.Ytnpkihioklpnmaa

/- topology: Components: a component is appended; the beginning; a valid topology. -/
namespace Go.Proofs.Ytnpkihioklpnmaa
open Go.RowKit Bs
set_option maxRecDepth 100000 in
theorem okT_ids {R : List Rt} {L : List Lk} (h : okT R L = true) : R.any wrId = false ∧ L.any (unk R) = false := by
  unfold okT chk at h
  split at h
  · cases h
  split at h
  · cases h
  rename_i h1
  split at h
  · cases h
  split at h
  · cases h
  split at h
  · cases h
  rename_i h2
  exact ⟨by simpa using h1, by simpa using h2⟩
set_option maxRecDepth 100000 in
theorem unk_not {R : List Rt} {L : List Lk} (h : L.any (unk R) = false) : ∀ l ∈ L, hasR R l.a = true ∧ hasR R l.b = true := by
  intro l hl
  have := List.any_eq_false.1 h l hl
  unfold unk at this
  simpa using this
def idsN (R : List Rt) : List Nat := R.map fun r => r.id.toNat
set_option maxRecDepth 100000 in
theorem idsN_of {R : List Rt} {x : Int} (h1 : R.any wrId = false) (h : hasR R x = true) : ∃ m : Nat, x = (m : Int) ∧ m ∈ idsN R := by
  have hr := hasR_range h1 h
  obtain ⟨r, hm, e⟩ := List.any_eq_true.1 h
  rw [decide_eq_true_eq] at e
  exact ⟨x.toNat, by omega, List.mem_map.2 ⟨r, hm, by rw [e]⟩⟩
set_option maxRecDepth 100000 in
theorem okT_near {R : List Rt} {L : List Lk} (h : okT R L = true) (x : Int) : ∀ y ∈ nbL L x, ∃ m : Nat, y = (m : Int) ∧ m ∈ idsN R := by
  obtain ⟨h1, h2⟩ := okT_ids h
  intro y hy
  obtain ⟨l, hl, h3⟩ := List.mem_flatMap.1 hy
  have := unk_not h2 l hl
  unfold nb1 at h3
  rw [List.mem_append] at h3
  rcases h3 with h3 | h3
  · split at h3
    · rw [List.mem_singleton] at h3; subst h3; exact idsN_of h1 this.1
    · cases h3
  · split at h3
    · rw [List.mem_singleton] at h3; subst h3; exact idsN_of h1 this.2
    · cases h3
end Go.Proofs.Ytnpkihioklpnmaa

/- topology: Components, the walk. -/
namespace Go.Proofs.Ytnpkihioklpnmaa
open Go.RowKit Bs
end Go.Proofs.Ytnpkihioklpnmaa

/- topology: Connected. -/
namespace Go.Proofs.Ytnpkihioklpnmaa
open Go.RowKit Bs
def both (a b : Int) (C : List Int) : Bool := hasI C a && hasI C b
/-- Whether two routers are connected. -/
def conn (R : List Rt) (L : List Lk) (a b : Int) : Bool := (comps R L).any (both a b)
end Go.Proofs.Ytnpkihioklpnmaa

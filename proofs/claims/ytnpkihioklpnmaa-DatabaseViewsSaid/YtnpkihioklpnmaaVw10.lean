/- Parts of the proof, packed: DbTap, DbPuM, AdSq, AdRSm, AdRVa, DbRef. -/
import Derived.Test.YtnpkihioklpnmaaVw5
import Derived.Test.YtnpkihioklpnmaaVw8
import Derived.Test.YtnpkihioklpnmaaVw9
import Derived.Test.YtnpkihioklpnmaaVw4
import Derived.Deep.CutBlock
import Derived.Test.YtnpkihioklpnmaaVw7
import Derived.Laws.StructEq
import Derived.BigQuiet
/- The tape's Database. -/
namespace Go.Proofs.Ytnpkihioklpnmaa
open Go.RowKit Bs
set_option maxRecDepth 100000 in
theorem db_size1 : (Try.prog.info? 25).map (·.size) = some 1 := by kernel_rfl
set_option maxRecDepth 100000 in
theorem res_db1 {fn : Func} {p : Tmp} (h : fn.results = #[.cell p 25]) (tmps : Array Value) (w : World) (g : Nat) (x : Value) (hp : tmps.getD p undef = .pointer (some ⟨g, 0, none⟩)) (hg : w.heap[g]? = some (.cells #[x] 25 (0, 0))) :
    (results fn tmps).run Try.prog w = .ok (.agg #[x]) w :=
  results_cell_row h tmps w g _ _ _ _ hp hg Try.underlying25 rfl db_size1
/-- Where lists of a database's adverts lie while the database grows. -/
def qD (W : World) (v : Value) (w : World) (b : Nat) : Prop := W.heap.size + 2 ≤ b ∧ b < w.heap.size ∧ v.ownBlock ≠ some b
set_option maxRecDepth 100000 in
theorem qD.less {W w w1 : World} {v : Value} (hs : w.heap.size ≤ w1.heap.size) {b : Nat} (h : qD W v w b) : qD W v w1 b := ⟨h.1, Nat.lt_of_lt_of_le h.2.1 hs, h.2.2⟩
/-- While the tape makes a database: the boxes, the row, the adverts. -/
structure DT (a : Nat) (W : World) (u v : Value) (l : List Ad) (w : World) : Prop where
  zb : w.heap[W.heap.size]? = some (.cells #[.slice none 0 0] 25 (0, 0))
  db : w.heap[W.heap.size + 1]? = some (.cells #[u] 25 (0, 0))
  own : w.ownsRow (W.heap.size + 2) 38 5 v l.length (l.flatMap adL)
  ok : ∀ A ∈ l, AdOk w (qD W v w) A
  nl : ∀ A ∈ l, AdNl A
  st : St a W w
/-- And an advert that is not in it yet. -/
structure DP (a : Nat) (W : World) (u v : Value) (l : List Ad) (A : Ad) (w : World) : Prop where
  dt : DT a W u v l w
  ok : AdOk w (qD W v w) A
  nl : AdNl A
section
variable {a : Nat} {W w w1 : World} {u v v' : Value} {l : List Ad} {A : Ad}
set_option maxRecDepth 100000 in
theorem DT.sz (h : DT a W u v l w) : W.heap.size + 2 ≤ w.heap.size := World.lt_of_row' h.db
set_option maxRecDepth 100000 in
theorem DT.step {r : Option Nat} (h : DT a W u v l w) (g : w.grownBy w1 r) (hr : ∀ b, r = some b → b < W.heap.size) (hs : St a W w1) : DT a W u v l w1 := by
  have hne : ∀ b, W.heap.size ≤ b → some b ≠ r := fun b hb e => by have := hr b e.symm; omega
  refine ⟨kept_row h.zb g (hne _ (Nat.le_refl _)), kept_row h.db g (hne _ (by omega)), h.own.kept g ?_, fun B hB => ((h.ok B hB).grown g (fun b hb => hne _ (by have := hb.1; omega))).mono (fun b hb => hb.less g.size), h.nl, hs⟩
  cases hv : v.ownBlock with
  | none => exact .inl rfl
  | some k => exact .inr (fun e => hne k (by have := (h.own.lt k hv).1; omega) e)
set_option maxRecDepth 100000 in
theorem DT.keep (h : DT a W u v l w) (g : w.grownBy w1 none) : DT a W u v l w1 := h.step g (fun _ e => by cases e) (h.st.none_ g)
set_option maxRecDepth 100000 in
theorem DT.tape (h : DT a W u v l w) (ha : a < W.heap.size) (hs : St a w w1) : DT a W u v l w1 := h.step hs.1 (fun b e => by have := Option.some.inj e; omega) (h.st.trans hs)
set_option maxRecDepth 100000 in
theorem DT.pend (h : DT a W u v l w) (ha : a < W.heap.size) (hs : St a w w1) (hok : AdOk w1 (w.heap.size ≤ ·) A) (hn : AdNl A) : DP a W u v l A w1 :=
  ⟨h.tape ha hs, hok.and.mono (fun b hb => ⟨by have := h.sz; omega, hb.2, fun e => by have := (h.own.lt b e).2; omega⟩), hn⟩
set_option maxRecDepth 100000 in
theorem DP.keep (h : DP a W u v l A w) (g : w.grownBy w1 none) : DP a W u v l A w1 := ⟨h.dt.keep g, (h.ok.keep g).mono (fun _ hb => hb.less g.size), h.nl⟩
set_option maxRecDepth 100000 in
theorem DP.app (h : DP a W u v l A w) (ha : a < W.heap.size) (hown : w1.ownsRow (W.heap.size + 2) 38 5 v' (l ++ [A]).length ((l ++ [A]).flatMap adL)) (hg : w.grownBy w1 v.ownBlock) (hat : v'.ownBlock = v.ownBlock ∨ v'.ownBlock = some w.heap.size) : DT a W u v' (l ++ [A]) w1 := by
  have hne : ∀ b, b < W.heap.size + 2 → some b ≠ v.ownBlock := fun b hb e => by have := (h.dt.own.lt b e.symm).1; omega
  have hq : ∀ b, qD W v w b → qD W v' w1 b := fun b hb => ⟨hb.1, Nat.lt_of_lt_of_le hb.2.1 hg.size, fun e => by
    rcases hat with h1 | h1
    · exact hb.2.2 (h1.symm.trans e)
    · have := Option.some.inj (h1.symm.trans e); have := hb.2.1; omega⟩
  refine ⟨kept_row h.dt.zb hg (hne _ (by omega)), kept_row h.dt.db hg (hne _ (by omega)), hown, fun B hB => ?_, fun B hB => ?_, ?_⟩
  · rcases List.mem_append.1 hB with hB | hB
    · exact ((h.dt.ok B hB).grown hg (fun b hb e => hb.2.2 e.symm)).mono hq
    · rw [List.mem_singleton] at hB; subst hB; exact (h.ok.grown hg (fun b hb e => hb.2.2 e.symm)).mono hq
  · rcases List.mem_append.1 hB with hB | hB
    · exact h.dt.nl B hB
    · rw [List.mem_singleton] at hB; subst hB; exact h.nl
  · cases hv : v.ownBlock with
    | none => rw [hv] at hg; exact h.dt.st.none_ hg
    | some b => rw [hv] at hg; exact h.dt.st.newA hg (by have := (h.dt.own.lt b hv).1; omega) ha
set_option maxRecDepth 100000 in
theorem DT.put (h : DT a W u v l w) (ha : a < W.heap.size) : DT a W v v l (w.setCell ⟨W.heap.size + 1, 0, none⟩ v) := by
  have g := grown_setCell w ⟨W.heap.size + 1, 0, none⟩ v
  refine ⟨kept_row h.zb g (fun e => by have : W.heap.size = W.heap.size + 1 := Option.some.inj e; omega), ?_, own_otherV h.own g (Nat.lt_succ_self _), fun B hB => ((h.ok B hB).grown g (fun b hb e => by have : b = W.heap.size + 1 := Option.some.inj e; have := hb.1; omega)).mono (fun b hb => hb.less g.size), h.nl, h.st.newA g (show W.heap.size ≤ W.heap.size + 1 by omega) ha⟩
  have h1 := heap_setCell_same w (W.heap.size + 1) 0 _ _ v h.db
  rw [h1]; rfl
set_option maxRecDepth 100000 in
theorem DT.e0 (h : DT a W u v l w) : w.cell? ⟨W.heap.size + 1, 0, none⟩ = some u := cell_of_row _ _ _ _ _ _ h.db
end
/-- Adverts of routers below k, valid, ascending. -/
structure DV (k : Int) (l : List Ad) : Prop where
  v : ∀ A ∈ l, vAd A = true ∧ A.r < k
  nb : ∀ A ∈ l, ∀ x ∈ A.L, x.a ≤ 6
  p : l.Pairwise (fun A B => A.r < B.r)
set_option maxRecDepth 100000 in
theorem DV.nil (k : Int) : DV k [] := ⟨(fun A h => by cases h), (fun A h => by cases h), List.Pairwise.nil⟩
set_option maxRecDepth 100000 in
theorem DV.up {k : Int} {l : List Ad} (h : DV k l) : DV (k + 1) l := ⟨fun A hA => ⟨(h.v A hA).1, by have := (h.v A hA).2; omega⟩, h.nb, h.p⟩
set_option maxRecDepth 100000 in
theorem DV.add {k : Int} {l : List Ad} {A : Ad} (h : DV k l) (hv : vAd A = true) (hr : A.r = k) (hn : ∀ x ∈ A.L, x.a ≤ 6) : DV (k + 1) (l ++ [A]) := by
  refine ⟨fun B hB => ?_, fun B hB => ?_, List.pairwise_append.2 ⟨h.p, List.pairwise_singleton _ _, fun B hB C hC => ?_⟩⟩
  · rcases List.mem_append.1 hB with hB | hB
    · exact ⟨(h.v B hB).1, by have := (h.v B hB).2; omega⟩
    · rw [List.mem_singleton] at hB; subst hB; exact ⟨hv, by omega⟩
  · rcases List.mem_append.1 hB with hB | hB
    · exact h.nb B hB
    · rw [List.mem_singleton] at hB; subst hB; exact hn
  · rw [List.mem_singleton] at hC; subst hC; have := (h.v B hB).2; omega
/-- Lists of adverts are short. -/
def DL (l : List Ad) : Prop := ∀ A ∈ l, A.L.length ≤ 40 ∧ A.C.length ≤ 10
set_option maxRecDepth 100000 in
theorem DL.add {l : List Ad} {A : Ad} (h : DL l) (h1 : A.L.length ≤ 40) (h2 : A.C.length ≤ 10) : DL (l ++ [A]) := fun B hB => by
  rcases List.mem_append.1 hB with hB | hB
  · exact h B hB
  · rw [List.mem_singleton] at hB; subst hB; exact ⟨h1, h2⟩
set_option maxRecDepth 100000 in
theorem d1_set {w : World} {g : Nat} {t : TypeId} {x : Value} (y : Value) (h : w.heap[g]? = some (.cells #[x] t (0, 0))) : (w.setCell ⟨g, 0, none⟩ y).heap[g]? = some (.cells #[y] t (0, 0)) := by
  have h1 := heap_setCell_same w g 0 _ _ y h
  rw [h1]; rfl
def TDPost (a : Nat) (n : Int) (w : World) (e : Ending) (w' : World) : Prop :=
  ∃ (l : List Ad) (p : Option Addr) (c : Nat), e = .returned (.agg #[.slice p l.length c]) ∧ l.length ≤ 7 ∧ DL l ∧ (¬ 0 < n → DV 7 l) ∧ RdA w' (w.heap.size ≤ ·) (.slice p l.length c) l ∧ (l.length ≤ c ∧ c ≤ 9223372036854775807) ∧ (p = none → c = 0) ∧ St a w w'
set_option maxRecDepth 100000 in
theorem dt_start {w : World} {a : Nat} (hT : Tp w a) : DT a w (.slice none 0 0) (.slice none 0 0) [] ((w.alloc (.cells #[.slice none 0 0] 25)).alloc (.cells #[.slice none 0 0] 25)) := by
  obtain ⟨k1, k2, k3, k4⟩ := two_boxes w #[.slice none 0 0] #[.slice none 0 0] 25 25
  exact ⟨k1, k2, World.ownsRow_nil _ _ _ _, (fun A h => by cases h), (fun A h => by cases h), ⟨grown_none k3 _, hT.keep k3⟩⟩
set_option maxRecDepth 100000 in
theorem dt_post {a : Nat} {n : Int} {w w1 w2 : World} {u : Value} {l : List Ad} {p : Option Addr} {c m : Nat} (h : DT a w u (.slice p m c) l w1) (hm : m = l.length) (ha : a < w.heap.size) (g : w1.grownBy w2 (some w.heap.size)) (h7 : l.length ≤ 7) (hL : DL l) (hV : ¬ 0 < n → DV 7 l) : TDPost a n w (.returned (.agg #[.slice p m c])) w2 := by
  subst hm
  obtain ⟨p', c', e, n1, m1⟩ := own_shape h.own
  injection e with e1 e2 e3
  subst e1 e3
  have hne : ∀ b, w.heap.size + 2 ≤ b → some b ≠ some w.heap.size := fun b hb e => by have := Option.some.inj e; omega
  exact ⟨l, p, c, rfl, h7, hL, hV, ⟨((rdf_of_own h.own).grown g hne).mono (fun b hb => by omega), fun A hA => ((h.ok A hA).grown g (fun _ hb => hne _ hb.1)).mono (fun b hb => by have := hb.1; omega), h.nl⟩, ⟨n1, m1⟩, own_nilc h.own, h.st.newA g (Nat.le_refl _) ha⟩
set_option maxRecDepth 100000 in
set_option maxHeartbeats 12800000 in
theorem tdb_any (a : Nat) (n : Int) (hn : I64 n) (w : World) (hT : Tp w a) :
    Calls Try.prog 12 #[.pointer (some ⟨a, 0, none⟩), .int .i64 n] w fun e w' => TDPost a n w e w' := by
  obtain ⟨ia, hia, hz0, hz1, hz2⟩ := info_parts info_ad5
  have ha := hT.lt
  have H0 := Lib.hid (dt_start hT)
  clear hT
  go_enter Try.func12, Try.ntmps12
  go_upto_region 2 with fail
  generalize (w.alloc _).alloc _ = wa at *
  go_wp2_with fail
  go_loopw [6] (fun x wr => ∃ (k : Nat) (v : Value) (l : List Ad), 1 ≤ k ∧ k ≤ 7 ∧ x = .int .i64 (k : Int) ∧ l.length + 1 ≤ k ∧ Hid (DL l ∧ DV (k : Int) l) ∧ Hid (DT a w v v l wr)) (fun x _ => 7 - (RowKit.intOf x).toNat)
  case atStart => exact ⟨1, _, [], Nat.le_refl _, by omega, rfl, by simp, Lib.hid ⟨(fun A h => by cases h), DV.nil _⟩, H0⟩
  case round =>
  obtain ⟨k, v, l, hk1, hk7, rfl, hlk, HV, K⟩ := hrel
  clear H0
  by_cases hlt : k ≤ 6
  · have hltI : (k : Int) ≤ 6 := by omega
    go_wp2_with fail
    refine (next_any a 4 (by unfold I64; omega) wr K.out.st.2).mono ?_
    rintro e w4 ⟨x, rfl, hx, hs⟩
    have K1 := Lib.hid (K.out.tape ha hs)
    clear hs K
    by_cases hx0 : 0 < x
    · go_upto_region 6 with fail
      clear hx
      have HD := Lib.hid (K1.out.keep (grown_drew (grown_refl w4 none)))
      clear K1
      refine region_until (S := fun w' => Hid (w'.heap[w.heap.size + 1]? = some (.cells #[v] 25 (0, 0)))) (fun j => j == 6 || j == 7 || j == 8) (by kernel_rfl) (Lib.hid HD.out.db) (fun hHeld => ?_)
      refine anyU_take (i := 0) (oi := { dst := some 14, op := Op.fieldAddr 25 (Operand.tmp 5) 0, type := 0, pos := "make.go:558", after := #[], guard := none }) (v := ?_) rfl (by kernel_rfl) (by kernel_rfl) (by kernel_rfl) (by kernel_rfl) (by kernel_rfl) (fun _ _ _ h => h) (Or.inl ⟨by rfl, ?_⟩) hHeld ?_
      rotate_left 1
      · intro u hSu
        have q0 := (cell_of_row _ _ 0 _ _ _ hSu.out)
        go_simp
        first | done | with_reducible rfl
      (try simp only [Act.put, List.setIfInBounds_toArray, List.set_cons_zero, List.set_cons_succ])
      refine anyU_take (i := 1) (oi := { dst := some 15, op := Op.load 23 (Operand.tmp 14), type := 23, pos := "make.go:558", after := #[{ on := 0, ground := Ground.data }], guard := none }) (v := ?_) rfl (by kernel_rfl) (by kernel_rfl) (by kernel_rfl) (by kernel_rfl) (by kernel_rfl) (fun _ _ _ h => h) (Or.inl ⟨by rfl, ?_⟩) hHeld ?_
      rotate_left 1
      · intro u hSu
        have q0 := (cell_of_row _ _ 0 _ _ _ hSu.out)
        go_simp
        first | done | with_reducible rfl
      (try simp only [Act.put, List.setIfInBounds_toArray, List.set_cons_zero, List.set_cons_succ])
      refine anyU_take (i := 2) (oi := { dst := some 16, op := Op.move (Operand.tmp 0), type := 26, pos := "make.go:558", after := #[], guard := none }) (v := ?_) rfl (by kernel_rfl) (by kernel_rfl) (by kernel_rfl) (by kernel_rfl) (by kernel_rfl) (fun _ _ _ h => h) (Or.inl ⟨by rfl, ?_⟩) hHeld ?_
      rotate_left 1
      · intro u hSu
        have q0 := (cell_of_row _ _ 0 _ _ _ hSu.out)
        go_simp
        first | done | with_reducible rfl
      (try simp only [Act.put, List.setIfInBounds_toArray, List.set_cons_zero, List.set_cons_succ])
      refine anyU_take (i := 3) (oi := { dst := some 17, op := Op.move (Operand.tmp 6), type := 3, pos := "make.go:558", after := #[], guard := none }) (v := ?_) rfl (by kernel_rfl) (by kernel_rfl) (by kernel_rfl) (by kernel_rfl) (by kernel_rfl) (fun _ _ _ h => h) (Or.inl ⟨by rfl, ?_⟩) hHeld ?_
      rotate_left 1
      · intro u hSu
        have q0 := (cell_of_row _ _ 0 _ _ _ hSu.out)
        go_simp
        first | done | with_reducible rfl
      (try simp only [Act.put, List.setIfInBounds_toArray, List.set_cons_zero, List.set_cons_succ])
      refine anyU_ready (rs := [4]) (by kernel_rfl) (by simp) ?_
      refine EachU.cons (o := { dst := some 18, op := Op.call { callee := Callee.value (Operand.func 23), args := #[Operand.tmp 16, Operand.tmp 17, Operand.const (Value.int IntKind.i64 0)], argTypes := #[26, 3, 3] }, type := 38, pos := "make.go:558", after := #[{ on := 2, ground := Ground.data }, { on := 3, ground := Ground.data }], guard := none }) rfl (fun Kz hK => ?_) EachU.nil
      go_simp
      go_at_call 23
      refine (adv3_any a (k : Int) 0 (by unfold I64; omega) (by unfold I64; omega) _ HD.out.st.2).mono ?_
      rintro e w5 ⟨A, rfl, hta, hok, hst, hnl⟩
      rw [show A.val = .agg #[.int .i64 A.r, .int .i64 A.q, .bool A.cp, .slice A.pL A.L.length A.cL, .slice A.pC A.C.length A.cC] from rfl]
      have HP := Lib.hid (HD.out.pend ha hst hok hnl)
      have HTA := Lib.hid hta
      clear hta hok hst hnl HD
      refine hK.out _ _ (fun _ => Lib.hid HP.out.dt.db) (fun hH2 => ?_)
      clear hK Kz hHeld
      have hHeld := hH2 rfl
      clear hH2
      (try simp only [Act.put, List.setIfInBounds_toArray, List.set_cons_zero, List.set_cons_succ])
      refine anyU_ready (rs := [5]) (by kernel_rfl) (by simp) ?_
      refine EachU.cons (o := { dst := some 19, op := Op.buildSlice 23 1 #[(0, Operand.tmp 18)], type := 23, pos := "make.go:558", after := #[{ on := 4, ground := Ground.data }], guard := none }) rfl (fun Kz hK => ?_) EachU.nil
      go_simp
      have HQ := Lib.hid (HP.out.keep (World.grownBy_alloc _ (.cells #[.int .i64 A.r, .int .i64 A.q, .bool A.cp, .slice A.pL A.L.length A.cL, .slice A.pC A.C.length A.cC] 38) none))
      clear HP
      refine hK.out _ _ (fun _ => Lib.hid HQ.out.dt.db) (fun hH2 => ?_)
      clear hK Kz hHeld
      have hHeld := hH2 rfl
      clear hH2
      (try simp only [Act.put, List.setIfInBounds_toArray, List.set_cons_zero, List.set_cons_succ])
      refine anyU_ready (rs := [6]) (by kernel_rfl) (by simp) ?_
      refine EachU.cons (o := { dst := some 20, op := Op.call { callee := Callee.builtin Builtin.append, args := #[Operand.tmp 15, Operand.tmp 19], argTypes := #[23, 23] }, type := 23, pos := "make.go:558", after := #[{ on := 1, ground := Ground.data }, { on := 5, ground := Ground.data }, { on := 4, ground := Ground.chain }], guard := none }) rfl (fun Kz hK => ?_) EachU.nil
      refine (astep_app adL 5 72 (by decide) adL_len ad_one 38 23 ia _ Try.underlying23 hia hz0 hz1 hz2 rfl (by decide) (by rfl) _ _ (by rfl) (w.heap.size + 2) v l (by rfl) HQ.out.dt.own (some ⟨_, 0, none⟩) 1 1 [A] (by rfl) rfl (by simp) (fun _ => True) (rdf_one _ trivial (cells5V _ _ _ _ _ _ _) 1) (by omega) (by simp; omega) (by have := HQ.out.dt.sz; omega) ?_)
      intro p4 c4 w8 hown hg hat
      have HD5 := Lib.hid (HQ.out.app ha hown hg hat)
      have b0 := HD5.out.e0
      have fB := frozen_of_row _ _ 0 _ _ HD5.out.db
      clear hown hg hat HQ
      refine hK.out _ _ (fun h => by cases h) (fun _ => ?_)
      clear hK Kz
      (try simp only [Act.put, List.setIfInBounds_toArray, List.set_cons_zero, List.set_cons_succ])
      refine anyU_ready (rs := [7]) (by kernel_rfl) (by simp) ?_
      refine EachU.cons (o := { dst := some 21, op := Op.fieldAddr 25 (Operand.tmp 5) 0, type := 0, pos := "make.go:558", after := #[{ on := 0, ground := Ground.phase }, { on := 1, ground := Ground.phase }, { on := 2, ground := Ground.phase }, { on := 3, ground := Ground.phase }, { on := 4, ground := Ground.phase }, { on := 5, ground := Ground.phase }, { on := 6, ground := Ground.phase }], guard := none }) rfl (fun Kz hK => ?_) EachU.nil
      go_simp
      refine hK.out _ _ (fun h => by cases h) (fun _ => ?_)
      clear hK Kz
      (try simp only [Act.put, List.setIfInBounds_toArray, List.set_cons_zero, List.set_cons_succ])
      refine anyU_ready (rs := [8]) (by kernel_rfl) (by simp) ?_
      refine EachU.cons (o := { dst := none, op := Op.store 23 (Operand.tmp 21) (Operand.tmp 20), type := 0, pos := "make.go:558", after := #[{ on := 7, ground := Ground.data }, { on := 6, ground := Ground.data }, { on := 6, ground := Ground.chain }, { on := 0, ground := Ground.phase }, { on := 1, ground := Ground.phase }, { on := 2, ground := Ground.phase }, { on := 3, ground := Ground.phase }, { on := 4, ground := Ground.phase }, { on := 5, ground := Ground.phase }, { on := 6, ground := Ground.phase }], guard := none }) rfl (fun Kz hK => ?_) EachU.nil
      go_simp
      refine hK.out _ _ (fun h => by cases h) (fun _ => ?_)
      clear hK Kz
      (try simp only [Act.put, List.setIfInBounds_toArray, List.set_cons_zero, List.set_cons_succ])
      refine anyU_done (by kernel_rfl) ?_ _
      have HN := Lib.hid (HD5.out.put ha)
      have HVA := HTA.out.valid (by omega) ⟨by omega, by omega⟩
      have HV2 : Hid (DL (l ++ [A]) ∧ DV ((k : Int) + 1) (l ++ [A])) := Lib.hid ⟨HV.out.1.add HTA.out.ll HTA.out.cl, HV.out.2.add HVA.1 HVA.2 (HTA.out.nb (by omega))⟩
      rw [show (k : Int) + 1 = ((k + 1 : Nat) : Int) by omega] at HV2
      clear HD5 hHeld b0 fB HVA
      go_wp2_with fail
      exact ⟨⟨k + 1, _, l ++ [A], by omega, by omega, congrArg _ (by omega), by rw [List.length_append]; simp; omega, HV2, HN⟩, by simp only [RowKit.intOf]; omega⟩
    · have HV2 : Hid (DL l ∧ DV ((k : Int) + 1) l) := Lib.hid ⟨HV.out.1, HV.out.2.up⟩
      rw [show (k : Int) + 1 = ((k + 1 : Nat) : Int) by omega] at HV2
      clear hx
      go_wp2_with fail
      exact ⟨⟨k + 1, v, l, by omega, by omega, congrArg _ (by omega), by omega, HV2, K1⟩, by simp only [RowKit.intOf]; omega⟩
  · obtain rfl : k = 7 := by omega
    have hlI : ¬ ((7 : Nat) : Int) ≤ 6 := by omega
    have hl6 : l.length ≤ 6 := by omega
    by_cases hn0 : 0 < n
    · go_wp2_with fail
      refine (one_any a n hn wr K.out.st.2).mono ?_
      rintro e w4 ⟨b, rfl, hs⟩
      have K1 := Lib.hid (K.out.tape ha hs)
      clear hs K
      cases b with
      | false =>
        obtain ⟨p9, c9, rfl, -, -⟩ := own_shape K1.out.own
        have hd0 := K1.out.e0
        have hz0' := cell_of_row _ _ 0 _ _ _ K1.out.zb
        have f0 := frozen_of_row _ _ 0 _ _ K1.out.zb
        have g9 := fun wz : World => grown_setCell wz ⟨w.heap.size, 0, none⟩ (.slice p9 (l).length c9)
        have HP9 := Lib.hid (dt_post (n := n) K1.out (by first | rfl | (simp; done)) ha (g9 _) (by omega) HV.out.1 (fun _ => HV.out.2))
        have HT9 := Lib.hid (d1_set (.slice p9 (l).length c9) K1.out.zb)
        clear K1 g9
        go_wp2_with fail
        refine bodyPost_ret (res_db1 rfl _ _ w.heap.size _ rfl HT9.out) rfl ?_
        exact HP9.out
      | true =>
        go_upto_region 8 with fail
        have HD := Lib.hid (K1.out.keep (grown_drew (grown_refl w4 none)))
        clear K1
        refine region_until (S := fun w' => Hid (w'.heap[w.heap.size + 1]? = some (.cells #[v] 25 (0, 0)))) (fun j => j == 8 || j == 9 || j == 10) (by kernel_rfl) (Lib.hid HD.out.db) (fun hHeld => ?_)
        refine anyU_take (i := 0) (oi := { dst := some 29, op := Op.fieldAddr 25 (Operand.tmp 5) 0, type := 0, pos := "make.go:562", after := #[], guard := none }) (v := ?_) rfl (by kernel_rfl) (by kernel_rfl) (by kernel_rfl) (by kernel_rfl) (by kernel_rfl) (fun _ _ _ h => h) (Or.inl ⟨by rfl, ?_⟩) hHeld ?_
        rotate_left 1
        · intro u hSu
          have q0 := (cell_of_row _ _ 0 _ _ _ hSu.out)
          go_simp
          first | done | with_reducible rfl
        (try simp only [Act.put, List.setIfInBounds_toArray, List.set_cons_zero, List.set_cons_succ])
        refine anyU_take (i := 1) (oi := { dst := some 30, op := Op.load 23 (Operand.tmp 29), type := 23, pos := "make.go:562", after := #[{ on := 0, ground := Ground.data }], guard := none }) (v := ?_) rfl (by kernel_rfl) (by kernel_rfl) (by kernel_rfl) (by kernel_rfl) (by kernel_rfl) (fun _ _ _ h => h) (Or.inl ⟨by rfl, ?_⟩) hHeld ?_
        rotate_left 1
        · intro u hSu
          have q0 := (cell_of_row _ _ 0 _ _ _ hSu.out)
          go_simp
          first | done | with_reducible rfl
        (try simp only [Act.put, List.setIfInBounds_toArray, List.set_cons_zero, List.set_cons_succ])
        refine anyU_take (i := 2) (oi := { dst := some 31, op := Op.move (Operand.tmp 0), type := 26, pos := "make.go:562", after := #[], guard := none }) (v := ?_) rfl (by kernel_rfl) (by kernel_rfl) (by kernel_rfl) (by kernel_rfl) (by kernel_rfl) (fun _ _ _ h => h) (Or.inl ⟨by rfl, ?_⟩) hHeld ?_
        rotate_left 1
        · intro u hSu
          have q0 := (cell_of_row _ _ 0 _ _ _ hSu.out)
          go_simp
          first | done | with_reducible rfl
        (try simp only [Act.put, List.setIfInBounds_toArray, List.set_cons_zero, List.set_cons_succ])
        refine anyU_take (i := 3) (oi := { dst := some 32, op := Op.move (Operand.tmp 0), type := 26, pos := "make.go:562", after := #[], guard := none }) (v := ?_) rfl (by kernel_rfl) (by kernel_rfl) (by kernel_rfl) (by kernel_rfl) (by kernel_rfl) (fun _ _ _ h => h) (Or.inl ⟨by rfl, ?_⟩) hHeld ?_
        rotate_left 1
        · intro u hSu
          have q0 := (cell_of_row _ _ 0 _ _ _ hSu.out)
          go_simp
          first | done | with_reducible rfl
        (try simp only [Act.put, List.setIfInBounds_toArray, List.set_cons_zero, List.set_cons_succ])
        refine anyU_ready (rs := [4]) (by kernel_rfl) (by simp) ?_
        refine EachU.cons (o := { dst := some 33, op := Op.buildSlice 22 3 #[(0, Operand.const (Value.int IntKind.i64 1)), (1, Operand.const (Value.int IntKind.i64 6)), (2, Operand.const (Value.int IntKind.i64 7))], type := 22, pos := "make.go:562", after := #[], guard := none }) rfl (fun Kz hK => ?_) EachU.nil
        go_simp
        have HM0 := among_list I64 _ a [1, 6, 7] #[.int .i64 1, .int .i64 6, .int .i64 7] 3 HD.out.st.2.lt rfl (by intro x hx; simp only [List.mem_cons, List.not_mem_nil, or_false] at hx; unfold I64; omega)
        have HM : Hid (Among I64 _ a _ 0 3) := Lib.hid HM0
        clear HM0
        have HDn := Lib.hid (HD.out.keep (World.grownBy_alloc _ (.cells #[.int .i64 1, .int .i64 6, .int .i64 7] 3) none))
        clear HD
        have HD := HDn
        clear HDn
        refine hK.out _ _ (fun _ => Lib.hid HD.out.db) (fun hH2 => ?_)
        clear hK Kz hHeld
        have hHeld := hH2 rfl
        clear hH2
        (try simp only [Act.put, List.setIfInBounds_toArray, List.set_cons_zero, List.set_cons_succ])
        refine anyU_ready (rs := [5]) (by kernel_rfl) (by simp) ?_
        refine EachU.cons (o := { dst := some 34, op := Op.call { callee := Callee.value (Operand.func 46), args := #[Operand.tmp 32, Operand.tmp 33], argTypes := #[26, 22] }, type := 3, pos := "make.go:562", after := #[{ on := 3, ground := Ground.data }, { on := 4, ground := Ground.data }], guard := none }) rfl (fun Kz hK => ?_) EachU.nil
        go_simp
        go_at_call 46
        refine (pick_any I64 a _ 0 3 3 (by omega) (by omega) _ HD.out.st.2 HM.out).mono ?_
        rintro e w5 ⟨R, rfl, hR, hs⟩
        have HR := Lib.hid hR
        have HDn := Lib.hid (HD.out.tape ha hs)
        clear hs hR HD HM
        have HD := HDn
        clear HDn
        refine hK.out _ _ (fun _ => Lib.hid HD.out.db) (fun hH2 => ?_)
        clear hK Kz hHeld
        have hHeld := hH2 rfl
        clear hH2
        (try simp only [Act.put, List.setIfInBounds_toArray, List.set_cons_zero, List.set_cons_succ])
        refine anyU_ready (rs := [6]) (by kernel_rfl) (by simp) ?_
        refine EachU.cons (o := { dst := some 35, op := Op.call { callee := Callee.value (Operand.func 23), args := #[Operand.tmp 31, Operand.tmp 34, Operand.const (Value.int IntKind.i64 2)], argTypes := #[26, 3, 3] }, type := 38, pos := "make.go:562", after := #[{ on := 2, ground := Ground.data }, { on := 5, ground := Ground.data }, { on := 5, ground := Ground.chain }], guard := none }) rfl (fun Kz hK => ?_) EachU.nil
        go_simp
        go_at_call 23
        refine (adv3_any a R 2 HR.out (by unfold I64; omega) _ HD.out.st.2).mono ?_
        rintro e w5 ⟨A, rfl, hta, hok, hst, hnl⟩
        rw [show A.val = .agg #[.int .i64 A.r, .int .i64 A.q, .bool A.cp, .slice A.pL A.L.length A.cL, .slice A.pC A.C.length A.cC] from rfl]
        have HP := Lib.hid (HD.out.pend ha hst hok hnl)
        have HTA := Lib.hid hta
        clear hta hok hst hnl HD
        refine hK.out _ _ (fun _ => Lib.hid HP.out.dt.db) (fun hH2 => ?_)
        clear hK Kz hHeld
        have hHeld := hH2 rfl
        clear hH2
        (try simp only [Act.put, List.setIfInBounds_toArray, List.set_cons_zero, List.set_cons_succ])
        refine anyU_ready (rs := [7]) (by kernel_rfl) (by simp) ?_
        refine EachU.cons (o := { dst := some 36, op := Op.buildSlice 23 1 #[(0, Operand.tmp 35)], type := 23, pos := "make.go:562", after := #[{ on := 6, ground := Ground.data }], guard := none }) rfl (fun Kz hK => ?_) EachU.nil
        go_simp
        have HQ := Lib.hid (HP.out.keep (World.grownBy_alloc _ (.cells #[.int .i64 A.r, .int .i64 A.q, .bool A.cp, .slice A.pL A.L.length A.cL, .slice A.pC A.C.length A.cC] 38) none))
        clear HP
        refine hK.out _ _ (fun _ => Lib.hid HQ.out.dt.db) (fun hH2 => ?_)
        clear hK Kz hHeld
        have hHeld := hH2 rfl
        clear hH2
        (try simp only [Act.put, List.setIfInBounds_toArray, List.set_cons_zero, List.set_cons_succ])
        refine anyU_ready (rs := [8]) (by kernel_rfl) (by simp) ?_
        refine EachU.cons (o := { dst := some 37, op := Op.call { callee := Callee.builtin Builtin.append, args := #[Operand.tmp 30, Operand.tmp 36], argTypes := #[23, 23] }, type := 23, pos := "make.go:562", after := #[{ on := 1, ground := Ground.data }, { on := 7, ground := Ground.data }, { on := 6, ground := Ground.chain }], guard := none }) rfl (fun Kz hK => ?_) EachU.nil
        refine (astep_app adL 5 72 (by decide) adL_len ad_one 38 23 ia _ Try.underlying23 hia hz0 hz1 hz2 rfl (by decide) (by rfl) _ _ (by rfl) (w.heap.size + 2) v l (by rfl) HQ.out.dt.own (some ⟨_, 0, none⟩) 1 1 [A] (by rfl) rfl (by simp) (fun _ => True) (rdf_one _ trivial (cells5V _ _ _ _ _ _ _) 1) (by omega) (by simp; omega) (by have := HQ.out.dt.sz; omega) ?_)
        intro p4 c4 w8 hown hg hat
        have HD5 := Lib.hid (HQ.out.app ha hown hg hat)
        have b0 := HD5.out.e0
        have fB := frozen_of_row _ _ 0 _ _ HD5.out.db
        clear hown hg hat HQ
        refine hK.out _ _ (fun h => by cases h) (fun _ => ?_)
        clear hK Kz
        (try simp only [Act.put, List.setIfInBounds_toArray, List.set_cons_zero, List.set_cons_succ])
        refine anyU_ready (rs := [9]) (by kernel_rfl) (by simp) ?_
        refine EachU.cons (o := { dst := some 38, op := Op.fieldAddr 25 (Operand.tmp 5) 0, type := 0, pos := "make.go:562", after := #[{ on := 0, ground := Ground.phase }, { on := 1, ground := Ground.phase }, { on := 2, ground := Ground.phase }, { on := 3, ground := Ground.phase }, { on := 4, ground := Ground.phase }, { on := 5, ground := Ground.phase }, { on := 6, ground := Ground.phase }, { on := 7, ground := Ground.phase }, { on := 8, ground := Ground.phase }], guard := none }) rfl (fun Kz hK => ?_) EachU.nil
        go_simp
        refine hK.out _ _ (fun h => by cases h) (fun _ => ?_)
        clear hK Kz
        (try simp only [Act.put, List.setIfInBounds_toArray, List.set_cons_zero, List.set_cons_succ])
        refine anyU_ready (rs := [10]) (by kernel_rfl) (by simp) ?_
        refine EachU.cons (o := { dst := none, op := Op.store 23 (Operand.tmp 38) (Operand.tmp 37), type := 0, pos := "make.go:562", after := #[{ on := 9, ground := Ground.data }, { on := 8, ground := Ground.data }, { on := 8, ground := Ground.chain }, { on := 0, ground := Ground.phase }, { on := 1, ground := Ground.phase }, { on := 2, ground := Ground.phase }, { on := 3, ground := Ground.phase }, { on := 4, ground := Ground.phase }, { on := 5, ground := Ground.phase }, { on := 6, ground := Ground.phase }, { on := 7, ground := Ground.phase }, { on := 8, ground := Ground.phase }], guard := none }) rfl (fun Kz hK => ?_) EachU.nil
        go_simp
        refine hK.out _ _ (fun h => by cases h) (fun _ => ?_)
        clear hK Kz
        (try simp only [Act.put, List.setIfInBounds_toArray, List.set_cons_zero, List.set_cons_succ])
        refine anyU_done (by kernel_rfl) ?_ _
        have K1 := Lib.hid (HD5.out.put ha)
        have HVA : Hid (DL (l ++ [A])) := Lib.hid (HV.out.1.add HTA.out.ll HTA.out.cl)
        clear HD5 hHeld b0 fB
        go_upto_region 9 with fail
        generalize World.setCell _ _ _ = w9 at *
        have hd0 := K1.out.e0
        have hz0' := cell_of_row _ _ 0 _ _ _ K1.out.zb
        have f0 := frozen_of_row _ _ 0 _ _ K1.out.zb
        have g9 := fun wz : World => grown_setCell wz ⟨w.heap.size, 0, none⟩ (.slice p4 (l.length + [A].length) c4)
        have HP9 := Lib.hid (dt_post (n := n) K1.out (by first | rfl | (simp; done)) ha (g9 _) (by rw [List.length_append]; simp; omega) HVA.out (fun h => absurd hn0 h))
        have HT9 := Lib.hid (d1_set (.slice p4 (l.length + [A].length) c4) K1.out.zb)
        clear K1 g9
        go_wp2_with fail
        refine bodyPost_ret (res_db1 rfl _ _ w.heap.size _ rfl HT9.out) rfl ?_
        exact HP9.out
    · have K1 := K
      clear K
      obtain ⟨p9, c9, rfl, -, -⟩ := own_shape K1.out.own
      have hd0 := K1.out.e0
      have hz0' := cell_of_row _ _ 0 _ _ _ K1.out.zb
      have f0 := frozen_of_row _ _ 0 _ _ K1.out.zb
      have g9 := fun wz : World => grown_setCell wz ⟨w.heap.size, 0, none⟩ (.slice p9 (l).length c9)
      have HP9 := Lib.hid (dt_post (n := n) K1.out (by first | rfl | (simp; done)) ha (g9 _) (by omega) HV.out.1 (fun _ => HV.out.2))
      have HT9 := Lib.hid (d1_set (.slice p9 (l).length c9) K1.out.zb)
      clear K1 g9
      go_wp2_with fail
      refine bodyPost_ret (res_db1 rfl _ _ w.heap.size _ rfl HT9.out) rfl ?_
      exact HP9.out
end Go.Proofs.Ytnpkihioklpnmaa

/- database: Put. -/
namespace Go.Proofs.Ytnpkihioklpnmaa
open Go.RowKit Bs
end Go.Proofs.Ytnpkihioklpnmaa

/- Two links compared, two claims compared. -/
namespace Go.Proofs.Ytnpkihioklpnmaa
open Go.RowKit Bs
end Go.Proofs.Ytnpkihioklpnmaa

/- The reference's Same. -/
namespace Go.Proofs.Ytnpkihioklpnmaa
open Go.RowKit Bs
end Go.Proofs.Ytnpkihioklpnmaa

/- The reference: when the claims of an advert are valid, and when an advert is. -/
namespace Go.Proofs.Ytnpkihioklpnmaa
open Go.RowKit Bs
set_option maxRecDepth 100000 in
theorem rin_any (n lo hi : Int) (w : World) :
    Calls Try.prog 82 #[.int .i64 n, .int .i64 lo, .int .i64 hi] w fun e w' => e = .returned (.bool (decide (lo ≤ n ∧ n ≤ hi))) ∧ w = w' := by
  by_cases h1 : lo ≤ n
  · by_cases h2 : n ≤ hi
    · rw [decide_eq_true (show lo ≤ n ∧ n ≤ hi from ⟨h1, h2⟩)]
      go_enter Try.func82, Try.ntmps82
      go_wp2_with fail
      go_ret
      exact ⟨rfl, rfl⟩
    · rw [decide_eq_false (show ¬ (lo ≤ n ∧ n ≤ hi) from fun h => h2 h.2)]
      go_enter Try.func82, Try.ntmps82
      go_wp2_with fail
      go_ret
      exact ⟨rfl, rfl⟩
  · rw [decide_eq_false (show ¬ (lo ≤ n ∧ n ≤ hi) from fun h => h1 h.1)]
    go_enter Try.func82, Try.ntmps82
    go_wp2_with fail
    go_ret
    exact ⟨rfl, rfl⟩
set_option maxRecDepth 100000 in
theorem rin_lit (n lo hi : Int) (b : Bool) (h : decide (lo ≤ n ∧ n ≤ hi) = b) (w : World) :
    Calls Try.prog 82 #[.int .i64 n, .int .i64 lo, .int .i64 hi] w fun e w' => e = .returned (.bool b) ∧ w = w' := by
  rw [← h]; exact rin_any n lo hi w
set_option maxRecDepth 100000 in
theorem vlr_lit (n : Int) (b : Bool) (h : vl n = b) (w : World) :
    Calls Try.prog 110 #[.int .i64 n] w fun e w' => e = .returned (.bool b) ∧ w = w' := by
  rw [← h]; exact vlr_any n w
set_option maxRecDepth 100000 in
set_option maxHeartbeats 6400000 in
theorem rvc_any (L : List T3) (p : Option Addr) (c : Nat) (q : Nat → Prop) (w : World) (hR : Rd3 w q (.slice p L.length c) L) (hm : L.length ≤ 9223372036854775807) :
    Calls Try.prog 83 #[.slice p L.length c] w fun e w' => e = .returned (.bool (vClaims L)) ∧ w.grownBy w' none := by
  have HR := Lib.hid hR
  clear hR
  by_cases h8 : 8 < L.length
  · have hX : vClaims L = false := by unfold vClaims; rw [decide_eq_false (by omega)]; rfl
    rw [hX]
    clear hX
    go_enter Try.func83, Try.ntmps83
    go_wp2_with fail
    go_ret
    exact ⟨rfl, grown_refl _ _⟩
  · obtain ⟨X, hX⟩ : ∃ X, vClaims L = X := ⟨_, rfl⟩
    rw [hX]
    have I0 : Hid (vCm (lastA (-1) L 0) (L.drop 0) = X ∧ -1 ≤ lastA (-1) L 0) := Lib.hid (by
      rw [lastA_zero]
      refine ⟨?_, by omega⟩
      unfold vClaims at hX
      rw [decide_eq_true (by omega)] at hX
      exact hX)
    have G0 : Hid (w.grownBy w none) := Lib.hid (grown_refl _ _)
    clear hX
    go_enter Try.func83, Try.ntmps83
    go_wp2_with fail
    go_loopw [3] (fun a wr => ∃ k : Nat, k ≤ L.length ∧ a = .int .i64 (k : Int) ∧ Hid (vCm (lastA (-1) L k) (L.drop k) = X ∧ -1 ≤ lastA (-1) L k) ∧ Hid (w.grownBy wr none)) (fun a _ => L.length - (RowKit.intOf a).toNat)
    case atStart => exact ⟨0, Nat.zero_le _, rfl, I0, G0⟩
    case round =>
      obtain ⟨k, hk, rfl, HI, HG⟩ := hrel
      clear I0 G0
      by_cases hlt : k < L.length
      · have hlti : (k : Int) < (L.length : Int) := by omega
        obtain ⟨-, b, off, rfl, -, -⟩ := rd3_cells HR.out (by omega)
        obtain ⟨x, hx⟩ : ∃ x, L[k]? = some x := ⟨_, List.getElem?_eq_getElem hlt⟩
        have HXX := Lib.hid hx
        have HS := Lib.hid (HI.out.1.symm.trans (vCm_step (d := -1) hx))
        have HLA := Lib.hid (lastA_succ (d := -1) hx)
        have hlo := HI.out.2
        obtain ⟨t, ht⟩ : ∃ t, lastA (-1) L k = t := ⟨_, rfl⟩
        rw [ht] at HS hlo
        have HTT := Lib.hid ht
        obtain ⟨v1, hv1⟩ : ∃ v1, decide ((0 : Int) ≤ x.a ∧ x.a ≤ 7) = v1 := ⟨_, rfl⟩
        obtain ⟨v2, hv2⟩ : ∃ v2, decide ((1 : Int) ≤ x.b ∧ x.b ≤ 256) = v2 := ⟨_, rfl⟩
        obtain ⟨v3, hv3⟩ : ∃ v3, decide (x.c = 8 ∨ x.c = 16 ∨ x.c = 32 ∨ x.c = 64) = v3 := ⟨_, rfl⟩
        have HV1 := Lib.hid hv1
        have HV2 := Lib.hid hv2
        have HV3 : Hid (vl x.c = v3) := Lib.hid (by rw [← hv3]; exact vl_dec x.c)
        have HO : Hid (okCm t x = (v1 && (v2 && (v3 && decide (t < x.a))))) := Lib.hid (by
          rw [← hv1, ← hv2, ← hv3, ← Bool.decide_and, ← Bool.decide_and, ← Bool.decide_and]
          unfold okCm
          exact decide_eq_decide.2 ⟨fun h => ⟨⟨by omega, h.2.1⟩, h.2.2.1, h.2.2.2, h.1⟩, fun h => ⟨h.2.2.2, h.1.2, h.2.1, h.2.2.1⟩⟩)
        clear hx ht hv1 hv2 hv3 HI
        obtain ⟨a0, a1, a2⟩ := rd3_at (HR.out.keep HG.out) HXX.out
        cases v1 with
        | false =>
          have hX : X = false := by rw [HS.out, HO.out]; rfl
          subst hX
          go_wp2_with fail
          go_big_quiet ((first | (go_at_call 82; first | with_reducible exact qt1 (rin_lit x.a 0 7 _ HV1.out _) | with_reducible exact qt1 (rin_lit x.b 1 256 _ HV2.out _)) | (go_at_call 110; first | with_reducible exact qt1 (vlr_lit x.c _ HV3.out _))))
          go_wp2_with fail
          go_ret
          exact ⟨rfl, grown_trans HG.out (grown_drewN _ _ _)⟩
        | true =>
        cases v2 with
        | false =>
          have hX : X = false := by rw [HS.out, HO.out]; rfl
          subst hX
          go_wp2_with fail
          go_big_quiet ((first | (go_at_call 82; first | with_reducible exact qt1 (rin_lit x.a 0 7 _ HV1.out _) | with_reducible exact qt1 (rin_lit x.b 1 256 _ HV2.out _)) | (go_at_call 110; first | with_reducible exact qt1 (vlr_lit x.c _ HV3.out _))))
          go_wp2_with fail
          go_ret
          exact ⟨rfl, grown_trans HG.out (grown_drewN _ _ _)⟩
        | true =>
        cases v3 with
        | false =>
          have hX : X = false := by rw [HS.out, HO.out]; rfl
          subst hX
          go_wp2_with fail
          go_big_quiet ((first | (go_at_call 82; first | with_reducible exact qt1 (rin_lit x.a 0 7 _ HV1.out _) | with_reducible exact qt1 (rin_lit x.b 1 256 _ HV2.out _)) | (go_at_call 110; first | with_reducible exact qt1 (vlr_lit x.c _ HV3.out _))))
          go_wp2_with fail
          go_ret
          exact ⟨rfl, grown_trans HG.out (grown_drewN _ _ _)⟩
        | true =>
        have hxa : 0 ≤ x.a ∧ x.a ≤ 7 := of_decide_eq_true HV1.out
        by_cases hk0 : k = 0
        · have ht0 : t = -1 := by rw [← HTT.out, hk0, lastA_zero]
          have hta : t < x.a := by omega
          have hkb : decide (0 < k) = false := decide_eq_false (by omega)
          clear hk0
          have HN : Hid (vCm (lastA (-1) L (k + 1)) (L.drop (k + 1)) = X ∧ -1 ≤ lastA (-1) L (k + 1)) := Lib.hid ⟨by rw [HS.out, HO.out, decide_eq_true hta]; rfl, by rw [HLA.out]; omega⟩
          go_wp2_with fail
          go_big_quiet ((first | (go_at_call 82; first | with_reducible exact qt1 (rin_lit x.a 0 7 _ HV1.out _) | with_reducible exact qt1 (rin_lit x.b 1 256 _ HV2.out _)) | (go_at_call 110; first | with_reducible exact qt1 (vlr_lit x.c _ HV3.out _))))
          go_wp2_with fail
          exact ⟨⟨k + 1, by omega, congrArg _ (by omega), HN, Lib.hid (grown_trans HG.out (grown_drewN _ _ _))⟩, by simp only [RowKit.intOf]; omega⟩
        · obtain ⟨j, rfl⟩ : ∃ j, k = j + 1 := ⟨k - 1, by omega⟩
          obtain ⟨y, hy⟩ : ∃ y, L[j]? = some y := ⟨_, List.getElem?_eq_getElem (by omega)⟩
          have hty : t = y.a := by rw [← HTT.out, lastA_succ hy]
          obtain ⟨z0, z1, z2⟩ := rd3_at (HR.out.keep HG.out) hy
          have hjp : (0 : Int) < ((j + 1 : Nat) : Int) := by omega
          have hjl : (j : Int) < (L.length : Int) := by omega
          have hj2 : ((j + 1 : Nat) : Int) - 1 = (j : Int) := by omega
          clear hy
          by_cases hta : t < x.a
          · have hc1 : ¬ x.a ≤ y.a := by omega
            have hc2 : decide (x.a ≤ y.a) = false := decide_eq_false hc1
            have HN : Hid (vCm (lastA (-1) L (j + 1 + 1)) (L.drop (j + 1 + 1)) = X ∧ -1 ≤ lastA (-1) L (j + 1 + 1)) := Lib.hid ⟨by rw [HS.out, HO.out, decide_eq_true hta]; rfl, by rw [HLA.out]; omega⟩
            go_wp2_with fail
            go_big_quiet ((first | (go_at_call 82; first | with_reducible exact qt1 (rin_lit x.a 0 7 _ HV1.out _) | with_reducible exact qt1 (rin_lit x.b 1 256 _ HV2.out _)) | (go_at_call 110; first | with_reducible exact qt1 (vlr_lit x.c _ HV3.out _))))
            go_wp2_with fail
            exact ⟨⟨j + 1 + 1, by omega, congrArg _ (by omega), HN, Lib.hid (grown_trans HG.out (grown_drewN _ _ _))⟩, by simp only [RowKit.intOf]; omega⟩
          · have hc1 : x.a ≤ y.a := by omega
            have hc2 : decide (x.a ≤ y.a) = true := decide_eq_true hc1
            have hX : X = false := by rw [HS.out, HO.out, decide_eq_false hta]; rfl
            subst hX
            go_wp2_with fail
            go_big_quiet ((first | (go_at_call 82; first | with_reducible exact qt1 (rin_lit x.a 0 7 _ HV1.out _) | with_reducible exact qt1 (rin_lit x.b 1 256 _ HV2.out _)) | (go_at_call 110; first | with_reducible exact qt1 (vlr_lit x.c _ HV3.out _))))
            go_wp2_with fail
            go_ret
            exact ⟨rfl, grown_trans HG.out (grown_drewN _ _ _)⟩
      · obtain rfl : k = L.length := by omega
        obtain rfl : X = true := by rw [← HI.out.1]; exact vCm_end
        go_wp2_with fail
        go_ret
        exact ⟨rfl, HG.out⟩
set_option maxRecDepth 100000 in
set_option maxHeartbeats 6400000 in
theorem rvalidA_any (A : Ad) (q : Nat → Prop) (w : World) (hA : AdOk w q A) :
    Calls Try.prog 51 #[A.val] w fun e w' => e = .returned (.bool (vAd A)) ∧ w.grownBy w' none := by
  have hm1 := Nat.le_trans hA.hl.1 hA.hl.2
  have hm2 := Nat.le_trans hA.hc.1 hA.hc.2
  obtain ⟨X, hX⟩ : ∃ X, vAd A = X := ⟨_, rfl⟩
  rw [hX]
  obtain ⟨r, q2, cp, L, C, pL, cL, pC, cC⟩ := A
  have hb := heap_alloc_new w (.cells #[.int .i64 r, .int .i64 q2, .bool cp, .slice pL L.length cL, .slice pC C.length cC] 38)
  have hg := World.grownBy_alloc w (.cells #[.int .i64 r, .int .i64 q2, .bool cp, .slice pL L.length cL, .slice pC C.length cC] 38) none
  have HL : Hid (Rd3 _ q (.slice pL L.length cL) L) := Lib.hid (hA.l.keep hg)
  have HC : Hid (Rd3 _ q (.slice pC C.length cC) C) := Lib.hid (hA.c.keep hg)
  have HB := Lib.hid (And.intro hb hg)
  simp only at hm1 hm2
  obtain ⟨v1, hv1⟩ : ∃ v1, decide ((1 : Int) ≤ r ∧ r ≤ 99) = v1 := ⟨_, rfl⟩
  obtain ⟨v2, hv2⟩ : ∃ v2, decide ((1 : Int) ≤ q2 ∧ q2 ≤ 1000000) = v2 := ⟨_, rfl⟩
  have HV1 := Lib.hid hv1
  have HV2 := Lib.hid hv2
  have HX : Hid (X = (v1 && (v2 && (decide (L.length ≤ 23) && (vRe r 0 L && vClaims C))))) := Lib.hid (by
    rw [← hX, ← hv1, ← hv2]
    unfold vAd vHd
    simp only [Bool.decide_and, Bool.and_assoc])
  clear hX hb hg hA hv1 hv2
  unfold Ad.val
  go_enter Try.func51, Try.ntmps51
  go_upto_region 1 with fail
  generalize w.alloc _ = wa at *
  obtain ⟨c0, c1, c2, c3, c4⟩ := row5 HB.out.1
  go_wp2_with fail
  refine (rin_lit r 1 99 _ HV1.out _).mono ?_
  rintro e w' ⟨rfl, rfl⟩
  cases v1 with
  | false =>
    obtain rfl : X = false := by rw [HX.out]; rfl
    go_wp2_with fail
    go_ret
    exact ⟨rfl, HB.out.2⟩
  | true =>
  go_wp2_with fail
  refine (rin_lit q2 1 1000000 _ HV2.out _).mono ?_
  rintro e w' ⟨rfl, rfl⟩
  cases v2 with
  | false =>
    obtain rfl : X = false := by rw [HX.out]; rfl
    go_wp2_with fail
    go_ret
    exact ⟨rfl, HB.out.2⟩
  | true =>
  by_cases h23 : 23 < L.length
  · obtain rfl : X = false := by rw [HX.out, decide_eq_false (show ¬ L.length ≤ 23 by omega)]; rfl
    go_wp2_with fail
    go_ret
    exact ⟨rfl, HB.out.2⟩
  obtain ⟨Y, hY⟩ : ∃ Y, vRe r 0 L = Y := ⟨_, rfl⟩
  have HXY : Hid (X = (Y && vClaims C)) := Lib.hid (by rw [HX.out, hY, decide_eq_true (show L.length ≤ 23 by omega)]; rfl)
  have I0 : Hid (vRe r (lastA 0 L 0) (L.drop 0) = Y ∧ 0 ≤ lastA 0 L 0) := Lib.hid (by rw [lastA_zero]; exact ⟨hY, by omega⟩)
  have G0 : Hid (wa.grownBy wa none) := Lib.hid (grown_refl _ _)
  clear hY HX
  go_wp2_with fail
  go_loopw [3] (fun a wr => ∃ k : Nat, k ≤ L.length ∧ a = .int .i64 (k : Int) ∧ Hid (vRe r (lastA 0 L k) (L.drop k) = Y ∧ 0 ≤ lastA 0 L k) ∧ Hid (wa.grownBy wr none)) (fun a _ => L.length - (RowKit.intOf a).toNat)
  case atStart => exact ⟨0, Nat.zero_le _, rfl, I0, G0⟩
  case round =>
    obtain ⟨k, hk, rfl, HI, HG⟩ := hrel
    clear I0 G0 c0 c1 c2 c3 c4
    obtain ⟨c0, c1, c2, c3, c4⟩ := row5 (kept_row HB.out.1 HG.out (by simp))
    by_cases hlt : k < L.length
    · have hlti : (k : Int) < (L.length : Int) := by omega
      obtain ⟨-, b, off, rfl, -, -⟩ := rd3_cells HL.out (by omega)
      obtain ⟨x, hx⟩ : ∃ x, L[k]? = some x := ⟨_, List.getElem?_eq_getElem hlt⟩
      obtain ⟨a0, a1, a2⟩ := rd3_at (HL.out.keep HG.out) hx
      have HS := Lib.hid (HI.out.1.symm.trans (vRe_step (r := r) (d := 0) hx))
      have HLA := Lib.hid (lastA_succ (d := 0) hx)
      have hlo := HI.out.2
      obtain ⟨t, ht⟩ : ∃ t, lastA 0 L k = t := ⟨_, rfl⟩
      rw [ht] at HS hlo
      have HTT := Lib.hid ht
      obtain ⟨v1, hv1⟩ : ∃ v1, decide ((1 : Int) ≤ x.a ∧ x.a ≤ 99) = v1 := ⟨_, rfl⟩
      obtain ⟨v2, hv2⟩ : ∃ v2, decide (x.a = r) = v2 := ⟨_, rfl⟩
      obtain ⟨v3, hv3⟩ : ∃ v3, decide ((1 : Int) ≤ x.b ∧ x.b ≤ 1000) = v3 := ⟨_, rfl⟩
      obtain ⟨v4, hv4⟩ : ∃ v4, decide ((0 : Int) ≤ x.c ∧ x.c ≤ 1000) = v4 := ⟨_, rfl⟩
      have HV1 := Lib.hid hv1
      have HV3 := Lib.hid hv3
      have HV4 := Lib.hid hv4
      have HO : Hid (okRe r t x = (v1 && (!v2 && (v3 && (v4 && decide (t < x.a)))))) := Lib.hid (by
        rw [← hv1, ← hv2, ← hv3, ← hv4]
        unfold okRe
        rw [Bool.eq_iff_iff]
        simp only [Bool.and_eq_true, Bool.not_eq_true', decide_eq_true_eq, decide_eq_false_iff_not]
        exact ⟨fun h => ⟨⟨by omega, h.2.1⟩, h.2.2.1, h.2.2.2.1, h.2.2.2.2, h.1⟩, fun h => ⟨h.2.2.2.2, h.1.2, h.2.1, h.2.2.1, h.2.2.2.1⟩⟩)
      have HEQ : Hid ((x.a == r) = v2 ∧ (x.a != r) = !v2) := Lib.hid (by rw [← hv2]; exact ⟨rfl, rfl⟩)
      have HBX := Lib.hid (heap_alloc_new wr (.cells #[.int .i64 x.a, .int .i64 x.b, .int .i64 x.c] 73))
      have HGA := Lib.hid (World.grownBy_alloc wr (.cells #[.int .i64 x.a, .int .i64 x.b, .int .i64 x.c] 73) none)
      have HXX := Lib.hid hx
      clear hx ht hv1 hv2 hv3 hv4 HI
      go_upto_region 7 with fail
      clear a0 a1 a2 c0 c1 c2 c3 c4
      generalize wr.alloc _ = w3 at *
      have HG3 := Lib.hid (grown_trans HG.out HGA.out)
      obtain ⟨c0, c1, c2, c3, c4⟩ := row5 (kept_row HB.out.1 HG3.out (by simp))
      obtain ⟨d0, d1, d2⟩ := row3 HBX.out
      clear HG HGA
      cases v1 with
      | false =>
        obtain rfl : X = false := by rw [HXY.out, HS.out, HO.out]; rfl
        go_big_quiet ((first | (go_at_call 82; first | with_reducible exact qt1 (rin_lit x.a 1 99 _ HV1.out _) | with_reducible exact qt1 (rin_lit x.b 1 1000 _ HV3.out _) | with_reducible exact qt1 (rin_lit x.c 0 1000 _ HV4.out _))))
        go_wp2_with fail
        go_ret
        exact ⟨rfl, grown_trans HB.out.2 (grown_trans HG3.out (grown_drewN _ _ _))⟩
      | true =>
      cases v2 with
      | true =>
        have he1 : (x.a == r) = true := HEQ.out.1
        have he2 : (x.a != r) = false := HEQ.out.2
        obtain rfl : X = false := by rw [HXY.out, HS.out, HO.out]; rfl
        go_big_quiet ((first | (go_at_call 82; first | with_reducible exact qt1 (rin_lit x.a 1 99 _ HV1.out _) | with_reducible exact qt1 (rin_lit x.b 1 1000 _ HV3.out _) | with_reducible exact qt1 (rin_lit x.c 0 1000 _ HV4.out _))))
        go_wp2_with fail
        go_ret
        exact ⟨rfl, grown_trans HB.out.2 (grown_trans HG3.out (grown_drewN _ _ _))⟩
      | false =>
      have he1 : (x.a == r) = false := HEQ.out.1
      have he2 : (x.a != r) = true := HEQ.out.2
      cases v3 with
      | false =>
        obtain rfl : X = false := by rw [HXY.out, HS.out, HO.out]; rfl
        go_big_quiet ((first | (go_at_call 82; first | with_reducible exact qt1 (rin_lit x.a 1 99 _ HV1.out _) | with_reducible exact qt1 (rin_lit x.b 1 1000 _ HV3.out _) | with_reducible exact qt1 (rin_lit x.c 0 1000 _ HV4.out _))))
        go_wp2_with fail
        go_ret
        exact ⟨rfl, grown_trans HB.out.2 (grown_trans HG3.out (grown_drewN _ _ _))⟩
      | true =>
      cases v4 with
      | false =>
        obtain rfl : X = false := by rw [HXY.out, HS.out, HO.out]; rfl
        go_big_quiet ((first | (go_at_call 82; first | with_reducible exact qt1 (rin_lit x.a 1 99 _ HV1.out _) | with_reducible exact qt1 (rin_lit x.b 1 1000 _ HV3.out _) | with_reducible exact qt1 (rin_lit x.c 0 1000 _ HV4.out _))))
        go_wp2_with fail
        go_ret
        exact ⟨rfl, grown_trans HB.out.2 (grown_trans HG3.out (grown_drewN _ _ _))⟩
      | true =>
      have hxa : 1 ≤ x.a ∧ x.a ≤ 99 := of_decide_eq_true HV1.out
      by_cases hk0 : k = 0
      · have ht0 : t = 0 := by rw [← HTT.out, hk0, lastA_zero]
        have hta : t < x.a := by omega
        have hkb : decide (0 < k) = false := decide_eq_false (by omega)
        clear hk0
        have HN : Hid (vRe r (lastA 0 L (k + 1)) (L.drop (k + 1)) = Y ∧ 0 ≤ lastA 0 L (k + 1)) := Lib.hid ⟨by rw [HS.out, HO.out, decide_eq_true hta]; rfl, by rw [HLA.out]; omega⟩
        go_big_quiet ((first | (go_at_call 82; first | with_reducible exact qt1 (rin_lit x.a 1 99 _ HV1.out _) | with_reducible exact qt1 (rin_lit x.b 1 1000 _ HV3.out _) | with_reducible exact qt1 (rin_lit x.c 0 1000 _ HV4.out _))))
        go_wp2_with fail
        exact ⟨⟨k + 1, by omega, congrArg _ (by omega), HN, Lib.hid (grown_trans HG3.out (grown_drewN _ _ _))⟩, by simp only [RowKit.intOf]; omega⟩
      · obtain ⟨j, rfl⟩ : ∃ j, k = j + 1 := ⟨k - 1, by omega⟩
        obtain ⟨y, hy⟩ : ∃ y, L[j]? = some y := ⟨_, List.getElem?_eq_getElem (by omega)⟩
        have hty : t = y.a := by rw [← HTT.out, lastA_succ hy]
        obtain ⟨z0, z1, z2⟩ := rd3_at (HL.out.keep HG3.out) hy
        have hjp : (0 : Int) < ((j + 1 : Nat) : Int) := by omega
        have hjl : (j : Int) < (L.length : Int) := by omega
        have hj2 : ((j + 1 : Nat) : Int) - 1 = (j : Int) := by omega
        clear hy
        by_cases hta : t < x.a
        · have hc1 : ¬ x.a ≤ y.a := by omega
          have hc2 : decide (x.a ≤ y.a) = false := decide_eq_false hc1
          have HN : Hid (vRe r (lastA 0 L (j + 1 + 1)) (L.drop (j + 1 + 1)) = Y ∧ 0 ≤ lastA 0 L (j + 1 + 1)) := Lib.hid ⟨by rw [HS.out, HO.out, decide_eq_true hta]; rfl, by rw [HLA.out]; omega⟩
          go_big_quiet ((first | (go_at_call 82; first | with_reducible exact qt1 (rin_lit x.a 1 99 _ HV1.out _) | with_reducible exact qt1 (rin_lit x.b 1 1000 _ HV3.out _) | with_reducible exact qt1 (rin_lit x.c 0 1000 _ HV4.out _))))
          go_wp2_with fail
          exact ⟨⟨j + 1 + 1, by omega, congrArg _ (by omega), HN, Lib.hid (grown_trans HG3.out (grown_drewN _ _ _))⟩, by simp only [RowKit.intOf]; omega⟩
        · have hc1 : x.a ≤ y.a := by omega
          have hc2 : decide (x.a ≤ y.a) = true := decide_eq_true hc1
          obtain rfl : X = false := by rw [HXY.out, HS.out, HO.out, decide_eq_false hta]; rfl
          go_big_quiet ((first | (go_at_call 82; first | with_reducible exact qt1 (rin_lit x.a 1 99 _ HV1.out _) | with_reducible exact qt1 (rin_lit x.b 1 1000 _ HV3.out _) | with_reducible exact qt1 (rin_lit x.c 0 1000 _ HV4.out _))))
          go_wp2_with fail
          go_ret
          exact ⟨rfl, grown_trans HB.out.2 (grown_trans HG3.out (grown_drewN _ _ _))⟩
    · obtain rfl : k = L.length := by omega
      obtain rfl : Y = true := by rw [← HI.out.1]; exact vRe_end
      go_wp2_with fail
      have hC := rvc_any C pC cC q wr (HC.out.keep HG.out) hm2
      rw [show vClaims C = X by rw [HXY.out]; rfl] at hC
      refine hC.mono ?_
      rintro e w4 ⟨rfl, hg⟩
      have HF := Lib.hid (grown_trans HB.out.2 (grown_trans HG.out hg))
      clear hg hC
      go_wp2_with fail
      go_ret
      exact ⟨rfl, HF.out⟩
end Go.Proofs.Ytnpkihioklpnmaa

/- The reference's Find, Same, Check of databases; big. -/
namespace Go.Proofs.Ytnpkihioklpnmaa
open Go.RowKit Bs
structure D1 (W : World) (l : List Ad) (p : Option Addr) (c : Nat) (w : World) : Prop where
  db : RdA w (· < W.heap.size) (.slice p l.length c) l
  d : w.heap[W.heap.size]? = some (.cells #[.slice p l.length c] 25 (0, 0))
  gr : W.grownBy w none
set_option maxRecDepth 100000 in
theorem D1.keep {W w w1 : World} {l : List Ad} {p : Option Addr} {c : Nat} (h : D1 W l p c w) (g : w.grownBy w1 none) : D1 W l p c w1 := ⟨h.db.keep g, kept_row h.d g (by simp), grown_trans h.gr g⟩
set_option maxRecDepth 100000 in
theorem d1_start {w : World} {l : List Ad} {p : Option Addr} {c : Nat} {q : Nat → Prop} (hR : RdA w q (.slice p l.length c) l) : D1 w l p c (w.alloc (.cells #[.slice p l.length c] 25)) := by
  obtain ⟨k1, k2⟩ := tone_box w #[.slice p l.length c] 25
  exact ⟨(RdA.old hR).keep k2, k1, k2⟩
/-- Has an advert too long lists? -/
def bg1 (A : Ad) : Bool := decide (60 < A.L.length ∨ 60 < A.C.length)
def bigD (l : List Ad) : Bool := if l.any bg1 = true then true else decide (120 < l.length)
set_option maxRecDepth 100000 in
theorem big_sm {l : List Ad} (h : bigD l = false) : l.length ≤ 120 ∧ ∀ A ∈ l, A.L.length ≤ 60 ∧ A.C.length ≤ 60 := by
  unfold bigD at h
  by_cases e : l.any bg1 = true
  · rw [if_pos e] at h; cases h
  · rw [if_neg e] at h
    refine ⟨by have := of_decide_eq_false h; omega, fun A hA => ?_⟩
    have h2 := List.any_eq_false.1 (by simpa using e) A hA
    unfold bg1 at h2
    have h4 : ¬ (60 < A.L.length ∨ 60 < A.C.length) := fun h3 => h2 (decide_eq_true h3)
    omega
set_option maxRecDepth 100000 in
theorem anyD_take {l : List Ad} {P : Ad → Bool} {k : Nat} {x : Ad} (h : (l.take k).any P = false) (hx : l[k]? = some x) (hp : P x = false) : (l.take (k + 1)).any P = false := by
  rw [List.take_add_one, hx, List.any_append, h]
  simp [hp]
set_option maxRecDepth 100000 in
theorem anyD_hit {l : List Ad} {P : Ad → Bool} {k : Nat} {x : Ad} (hx : l[k]? = some x) (hp : P x = true) : l.any P = true := List.any_eq_true.2 ⟨x, List.mem_of_getElem? hx, hp⟩
set_option maxRecDepth 100000 in
set_option maxHeartbeats 3200000 in
theorem dbig_any (l : List Ad) (p : Option Addr) (c : Nat) (q : Nat → Prop) (w : World) (hR : RdA w q (.slice p l.length c) l) (hm : l.length ≤ 9223372036854775807) :
    Calls Try.prog 13 #[.agg #[.slice p l.length c]] w fun e w' => e = .returned (.bool (bigD l)) ∧ w.grownBy w' none := by
  have H0 := Lib.hid (d1_start hR)
  clear hR
  obtain ⟨X, hX⟩ : ∃ X, bigD l = X := ⟨_, rfl⟩
  have HX := Lib.hid hX
  rw [hX]
  clear hX
  go_enter Try.func13, Try.ntmps13
  go_upto_region 1 with fail
  generalize w.alloc _ = wa at *
  go_wp2_with fail
  go_loopw [3] (fun a wr => ∃ k : Nat, k ≤ l.length ∧ a = .int .i64 (k : Int) ∧ Hid ((l.take k).any bg1 = false) ∧ Hid (D1 w l p c wr)) (fun a _ => l.length - (RowKit.intOf a).toNat)
  case atStart => exact ⟨0, Nat.zero_le _, rfl, Lib.hid rfl, H0⟩
  case round =>
  obtain ⟨k, hk, rfl, HN, K⟩ := hrel
  clear H0
  have c0 : wr.cell? ⟨w.heap.size, 0, none⟩ = some (.slice p l.length c) := cell_of_row _ _ _ _ _ _ K.out.d
  by_cases hlt : k < l.length
  · have hltI : (k : Int) < (l.length : Int) := by omega
    obtain ⟨-, b, off, rfl, -, -⟩ := rda_cells K.out.db (by omega)
    obtain ⟨A, hA⟩ : ∃ A, l[k]? = some A := ⟨_, List.getElem?_eq_getElem hlt⟩
    obtain ⟨a0, a1, a2, a3, a4⟩ := rda_at K.out.db hA
    have HA := Lib.hid hA
    clear hA
    by_cases e1 : 60 < A.L.length
    · have e1' : (60 : Int) < (A.L.length : Int) := by omega
      obtain rfl : true = X := by rw [← HX.out]; unfold bigD; rw [if_pos (anyD_hit HA.out (decide_eq_true (Or.inl e1)))]
      clear e1
      go_wp2_with fail
      go_ret
      exact ⟨rfl, K.out.gr⟩
    · have e1' : ¬ (60 : Int) < (A.L.length : Int) := by omega
      by_cases e2 : 60 < A.C.length
      · have e2' : (60 : Int) < (A.C.length : Int) := by omega
        obtain rfl : true = X := by rw [← HX.out]; unfold bigD; rw [if_pos (anyD_hit HA.out (decide_eq_true (Or.inr e2)))]
        clear e1 e2
        go_wp2_with fail
        go_ret
        exact ⟨rfl, K.out.gr⟩
      · have e2' : ¬ (60 : Int) < (A.C.length : Int) := by omega
        have HN2 := Lib.hid (anyD_take HN.out HA.out (decide_eq_false (by omega)))
        clear e1 e2
        go_wp2_with fail
        exact ⟨⟨k + 1, by omega, congrArg _ (by omega), HN2, K⟩, by simp only [RowKit.intOf]; omega⟩
  · obtain rfl : k = l.length := by omega
    have hN := HN.out
    rw [List.take_length] at hN
    have HXX : Hid (X = decide ((120 : Int) < (l.length : Int))) := Lib.hid (by rw [← HX.out]; unfold bigD; rw [hN, if_neg (by decide)]; exact decide_eq_decide.2 (by omega))
    clear hN
    by_cases e3 : (120 : Int) < (l.length : Int)
    · obtain rfl : X = true := by rw [HXX.out, decide_eq_true e3]
      go_wp2_with fail
      go_ret
      exact ⟨rfl, K.out.gr⟩
    · obtain rfl : X = false := by rw [HXX.out, decide_eq_false e3]
      go_wp2_with fail
      go_ret
      exact ⟨rfl, K.out.gr⟩
end Go.Proofs.Ytnpkihioklpnmaa

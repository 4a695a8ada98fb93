/- Parts of the proof, packed: DbTap, DbPuM, DbRWi, DbRk, AdNwM, IoOwnR, IoOwnA, AdROw, AdREn, AdRNw, DbRPu, DbMrg, DbRMg, DbViw. -/
import Derived.Test.YtnpkihioklpnmaaAg5
import Derived.Test.YtnpkihioklpnmaaAg8
import Derived.Test.YtnpkihioklpnmaaAg9
import Derived.Test.YtnpkihioklpnmaaAg4
import Derived.Deep.CutBlock
import Derived.Test.YtnpkihioklpnmaaAg7
import Derived.BigQuiet
import Derived.Sort.Walk0
import Derived.Deep.CutRange
import Derived.Laws.Cover1
import Derived.Test.YtnpkihioklpnmaaAg6
/- The tape's Database. -/
namespace Go.Proofs.Ytnpkihioklpnmaa
open Go.RowKit Bs
set_option maxRecDepth 100000 in
theorem db_size1 : (Try.prog.info? 25).map (·.size) = some 1 := by kernel_rfl
set_option maxRecDepth 100000 in
theorem res_db1 {fn : Func} {p : Tmp} (h : fn.results = #[.cell p 25]) (tmps : Array Value) (w : World) (g : Nat) (x : Value) (hp : tmps.getD p undef = .pointer (some ⟨g, 0, none⟩)) (hg : w.heap[g]? = some (.cells #[x] 25 (0, 0))) :
    (results fn tmps).run Try.prog w = .ok (.agg #[x]) w :=
  results_cell_row h tmps w g _ _ _ _ hp hg Try.underlying25 rfl db_size1
/-- Where lists of a database's adverts lie while the database grows. -/
def qD (W : World) (v : Value) (w : World) (b : Nat) : Prop := W.heap.size + 2 ≤ b ∧ b < w.heap.size ∧ v.ownBlock ≠ some b
set_option maxRecDepth 100000 in
theorem qD.less {W w w1 : World} {v : Value} (hs : w.heap.size ≤ w1.heap.size) {b : Nat} (h : qD W v w b) : qD W v w1 b := ⟨h.1, Nat.lt_of_lt_of_le h.2.1 hs, h.2.2⟩
/-- While the tape makes a database: the boxes, the row, the adverts. -/
structure DT (a : Nat) (W : World) (u v : Value) (l : List Ad) (w : World) : Prop where
  zb : w.heap[W.heap.size]? = some (.cells #[.slice none 0 0] 25 (0, 0))
  db : w.heap[W.heap.size + 1]? = some (.cells #[u] 25 (0, 0))
  own : w.ownsRow (W.heap.size + 2) 38 5 v l.length (l.flatMap adL)
  ok : ∀ A ∈ l, AdOk w (qD W v w) A
  nl : ∀ A ∈ l, AdNl A
  st : St a W w
/-- And an advert that is not in it yet. -/
structure DP (a : Nat) (W : World) (u v : Value) (l : List Ad) (A : Ad) (w : World) : Prop where
  dt : DT a W u v l w
  ok : AdOk w (qD W v w) A
  nl : AdNl A
section
variable {a : Nat} {W w w1 : World} {u v v' : Value} {l : List Ad} {A : Ad}
set_option maxRecDepth 100000 in
theorem DT.sz (h : DT a W u v l w) : W.heap.size + 2 ≤ w.heap.size := World.lt_of_row' h.db
set_option maxRecDepth 100000 in
theorem DT.step {r : Option Nat} (h : DT a W u v l w) (g : w.grownBy w1 r) (hr : ∀ b, r = some b → b < W.heap.size) (hs : St a W w1) : DT a W u v l w1 := by
  have hne : ∀ b, W.heap.size ≤ b → some b ≠ r := fun b hb e => by have := hr b e.symm; omega
  refine ⟨kept_row h.zb g (hne _ (Nat.le_refl _)), kept_row h.db g (hne _ (by omega)), h.own.kept g ?_, fun B hB => ((h.ok B hB).grown g (fun b hb => hne _ (by have := hb.1; omega))).mono (fun b hb => hb.less g.size), h.nl, hs⟩
  cases hv : v.ownBlock with
  | none => exact .inl rfl
  | some k => exact .inr (fun e => hne k (by have := (h.own.lt k hv).1; omega) e)
set_option maxRecDepth 100000 in
theorem DT.keep (h : DT a W u v l w) (g : w.grownBy w1 none) : DT a W u v l w1 := h.step g (fun _ e => by cases e) (h.st.none_ g)
set_option maxRecDepth 100000 in
theorem DT.tape (h : DT a W u v l w) (ha : a < W.heap.size) (hs : St a w w1) : DT a W u v l w1 := h.step hs.1 (fun b e => by have := Option.some.inj e; omega) (h.st.trans hs)
set_option maxRecDepth 100000 in
theorem DT.pend (h : DT a W u v l w) (ha : a < W.heap.size) (hs : St a w w1) (hok : AdOk w1 (w.heap.size ≤ ·) A) (hn : AdNl A) : DP a W u v l A w1 :=
  ⟨h.tape ha hs, hok.and.mono (fun b hb => ⟨by have := h.sz; omega, hb.2, fun e => by have := (h.own.lt b e).2; omega⟩), hn⟩
set_option maxRecDepth 100000 in
theorem DP.keep (h : DP a W u v l A w) (g : w.grownBy w1 none) : DP a W u v l A w1 := ⟨h.dt.keep g, (h.ok.keep g).mono (fun _ hb => hb.less g.size), h.nl⟩
set_option maxRecDepth 100000 in
theorem DP.app (h : DP a W u v l A w) (ha : a < W.heap.size) (hown : w1.ownsRow (W.heap.size + 2) 38 5 v' (l ++ [A]).length ((l ++ [A]).flatMap adL)) (hg : w.grownBy w1 v.ownBlock) (hat : v'.ownBlock = v.ownBlock ∨ v'.ownBlock = some w.heap.size) : DT a W u v' (l ++ [A]) w1 := by
  have hne : ∀ b, b < W.heap.size + 2 → some b ≠ v.ownBlock := fun b hb e => by have := (h.dt.own.lt b e.symm).1; omega
  have hq : ∀ b, qD W v w b → qD W v' w1 b := fun b hb => ⟨hb.1, Nat.lt_of_lt_of_le hb.2.1 hg.size, fun e => by
    rcases hat with h1 | h1
    · exact hb.2.2 (h1.symm.trans e)
    · have := Option.some.inj (h1.symm.trans e); have := hb.2.1; omega⟩
  refine ⟨kept_row h.dt.zb hg (hne _ (by omega)), kept_row h.dt.db hg (hne _ (by omega)), hown, fun B hB => ?_, fun B hB => ?_, ?_⟩
  · rcases List.mem_append.1 hB with hB | hB
    · exact ((h.dt.ok B hB).grown hg (fun b hb e => hb.2.2 e.symm)).mono hq
    · rw [List.mem_singleton] at hB; subst hB; exact (h.ok.grown hg (fun b hb e => hb.2.2 e.symm)).mono hq
  · rcases List.mem_append.1 hB with hB | hB
    · exact h.dt.nl B hB
    · rw [List.mem_singleton] at hB; subst hB; exact h.nl
  · cases hv : v.ownBlock with
    | none => rw [hv] at hg; exact h.dt.st.none_ hg
    | some b => rw [hv] at hg; exact h.dt.st.newA hg (by have := (h.dt.own.lt b hv).1; omega) ha
set_option maxRecDepth 100000 in
theorem DT.put (h : DT a W u v l w) (ha : a < W.heap.size) : DT a W v v l (w.setCell ⟨W.heap.size + 1, 0, none⟩ v) := by
  have g := grown_setCell w ⟨W.heap.size + 1, 0, none⟩ v
  refine ⟨kept_row h.zb g (fun e => by have : W.heap.size = W.heap.size + 1 := Option.some.inj e; omega), ?_, own_otherV h.own g (Nat.lt_succ_self _), fun B hB => ((h.ok B hB).grown g (fun b hb e => by have : b = W.heap.size + 1 := Option.some.inj e; have := hb.1; omega)).mono (fun b hb => hb.less g.size), h.nl, h.st.newA g (show W.heap.size ≤ W.heap.size + 1 by omega) ha⟩
  have h1 := heap_setCell_same w (W.heap.size + 1) 0 _ _ v h.db
  rw [h1]; rfl
set_option maxRecDepth 100000 in
theorem DT.e0 (h : DT a W u v l w) : w.cell? ⟨W.heap.size + 1, 0, none⟩ = some u := cell_of_row _ _ _ _ _ _ h.db
end
/-- Adverts of routers below k, valid, ascending. -/
structure DV (k : Int) (l : List Ad) : Prop where
  v : ∀ A ∈ l, vAd A = true ∧ A.r < k
  nb : ∀ A ∈ l, ∀ x ∈ A.L, x.a ≤ 6
  p : l.Pairwise (fun A B => A.r < B.r)
set_option maxRecDepth 100000 in
theorem DV.nil (k : Int) : DV k [] := ⟨(fun A h => by cases h), (fun A h => by cases h), List.Pairwise.nil⟩
set_option maxRecDepth 100000 in
theorem DV.up {k : Int} {l : List Ad} (h : DV k l) : DV (k + 1) l := ⟨fun A hA => ⟨(h.v A hA).1, by have := (h.v A hA).2; omega⟩, h.nb, h.p⟩
set_option maxRecDepth 100000 in
theorem DV.add {k : Int} {l : List Ad} {A : Ad} (h : DV k l) (hv : vAd A = true) (hr : A.r = k) (hn : ∀ x ∈ A.L, x.a ≤ 6) : DV (k + 1) (l ++ [A]) := by
  refine ⟨fun B hB => ?_, fun B hB => ?_, List.pairwise_append.2 ⟨h.p, List.pairwise_singleton _ _, fun B hB C hC => ?_⟩⟩
  · rcases List.mem_append.1 hB with hB | hB
    · exact ⟨(h.v B hB).1, by have := (h.v B hB).2; omega⟩
    · rw [List.mem_singleton] at hB; subst hB; exact ⟨hv, by omega⟩
  · rcases List.mem_append.1 hB with hB | hB
    · exact h.nb B hB
    · rw [List.mem_singleton] at hB; subst hB; exact hn
  · rw [List.mem_singleton] at hC; subst hC; have := (h.v B hB).2; omega
/-- Lists of adverts are short. -/
def DL (l : List Ad) : Prop := ∀ A ∈ l, A.L.length ≤ 40 ∧ A.C.length ≤ 10
set_option maxRecDepth 100000 in
theorem DL.add {l : List Ad} {A : Ad} (h : DL l) (h1 : A.L.length ≤ 40) (h2 : A.C.length ≤ 10) : DL (l ++ [A]) := fun B hB => by
  rcases List.mem_append.1 hB with hB | hB
  · exact h B hB
  · rw [List.mem_singleton] at hB; subst hB; exact ⟨h1, h2⟩
set_option maxRecDepth 100000 in
theorem d1_set {w : World} {g : Nat} {t : TypeId} {x : Value} (y : Value) (h : w.heap[g]? = some (.cells #[x] t (0, 0))) : (w.setCell ⟨g, 0, none⟩ y).heap[g]? = some (.cells #[y] t (0, 0)) := by
  have h1 := heap_setCell_same w g 0 _ _ y h
  rw [h1]; rfl
def TDPost (a : Nat) (n : Int) (w : World) (e : Ending) (w' : World) : Prop :=
  ∃ (l : List Ad) (p : Option Addr) (c : Nat), e = .returned (.agg #[.slice p l.length c]) ∧ l.length ≤ 7 ∧ DL l ∧ (¬ 0 < n → DV 7 l) ∧ RdA w' (w.heap.size ≤ ·) (.slice p l.length c) l ∧ (l.length ≤ c ∧ c ≤ 9223372036854775807) ∧ (p = none → c = 0) ∧ St a w w'
set_option maxRecDepth 100000 in
theorem dt_start {w : World} {a : Nat} (hT : Tp w a) : DT a w (.slice none 0 0) (.slice none 0 0) [] ((w.alloc (.cells #[.slice none 0 0] 25)).alloc (.cells #[.slice none 0 0] 25)) := by
  obtain ⟨k1, k2, k3, k4⟩ := two_boxes w #[.slice none 0 0] #[.slice none 0 0] 25 25
  exact ⟨k1, k2, World.ownsRow_nil _ _ _ _, (fun A h => by cases h), (fun A h => by cases h), ⟨grown_none k3 _, hT.keep k3⟩⟩
set_option maxRecDepth 100000 in
theorem dt_post {a : Nat} {n : Int} {w w1 w2 : World} {u : Value} {l : List Ad} {p : Option Addr} {c m : Nat} (h : DT a w u (.slice p m c) l w1) (hm : m = l.length) (ha : a < w.heap.size) (g : w1.grownBy w2 (some w.heap.size)) (h7 : l.length ≤ 7) (hL : DL l) (hV : ¬ 0 < n → DV 7 l) : TDPost a n w (.returned (.agg #[.slice p m c])) w2 := by
  subst hm
  obtain ⟨p', c', e, n1, m1⟩ := own_shape h.own
  injection e with e1 e2 e3
  subst e1 e3
  have hne : ∀ b, w.heap.size + 2 ≤ b → some b ≠ some w.heap.size := fun b hb e => by have := Option.some.inj e; omega
  exact ⟨l, p, c, rfl, h7, hL, hV, ⟨((rdf_of_own h.own).grown g hne).mono (fun b hb => by omega), fun A hA => ((h.ok A hA).grown g (fun _ hb => hne _ hb.1)).mono (fun b hb => by have := hb.1; omega), h.nl⟩, ⟨n1, m1⟩, own_nilc h.own, h.st.newA g (Nat.le_refl _) ha⟩
set_option maxRecDepth 100000 in
set_option maxHeartbeats 12800000 in
theorem tdb_any (a : Nat) (n : Int) (hn : I64 n) (w : World) (hT : Tp w a) :
    Calls Try.prog 12 #[.pointer (some ⟨a, 0, none⟩), .int .i64 n] w fun e w' => TDPost a n w e w' := by
  obtain ⟨ia, hia, hz0, hz1, hz2⟩ := info_parts info_ad5
  have ha := hT.lt
  have H0 := Lib.hid (dt_start hT)
  clear hT
  go_enter Try.func12, Try.ntmps12
  go_upto_region 2 with fail
  generalize (w.alloc _).alloc _ = wa at *
  go_wp2_with fail
  go_loopw [6] (fun x wr => ∃ (k : Nat) (v : Value) (l : List Ad), 1 ≤ k ∧ k ≤ 7 ∧ x = .int .i64 (k : Int) ∧ l.length + 1 ≤ k ∧ Hid (DL l ∧ DV (k : Int) l) ∧ Hid (DT a w v v l wr)) (fun x _ => 7 - (RowKit.intOf x).toNat)
  case atStart => exact ⟨1, _, [], Nat.le_refl _, by omega, rfl, by simp, Lib.hid ⟨(fun A h => by cases h), DV.nil _⟩, H0⟩
  case round =>
  obtain ⟨k, v, l, hk1, hk7, rfl, hlk, HV, K⟩ := hrel
  clear H0
  by_cases hlt : k ≤ 6
  · have hltI : (k : Int) ≤ 6 := by omega
    go_wp2_with fail
    refine (next_any a 4 (by unfold I64; omega) wr K.out.st.2).mono ?_
    rintro e w4 ⟨x, rfl, hx, hs⟩
    have K1 := Lib.hid (K.out.tape ha hs)
    clear hs K
    by_cases hx0 : 0 < x
    · go_upto_region 6 with fail
      clear hx
      have HD := Lib.hid (K1.out.keep (grown_drew (grown_refl w4 none)))
      clear K1
      refine region_until (S := fun w' => Hid (w'.heap[w.heap.size + 1]? = some (.cells #[v] 25 (0, 0)))) (fun j => j == 6 || j == 7 || j == 8) (by kernel_rfl) (Lib.hid HD.out.db) (fun hHeld => ?_)
      refine anyU_take (i := 0) (oi := { dst := some 14, op := Op.fieldAddr 25 (Operand.tmp 5) 0, type := 0, pos := "make.go:558", after := #[], guard := none }) (v := ?_) rfl (by kernel_rfl) (by kernel_rfl) (by kernel_rfl) (by kernel_rfl) (by kernel_rfl) (fun _ _ _ h => h) (Or.inl ⟨by rfl, ?_⟩) hHeld ?_
      rotate_left 1
      · intro u hSu
        have q0 := (cell_of_row _ _ 0 _ _ _ hSu.out)
        go_simp
        first | done | with_reducible rfl
      (try simp only [Act.put, List.setIfInBounds_toArray, List.set_cons_zero, List.set_cons_succ])
      refine anyU_take (i := 1) (oi := { dst := some 15, op := Op.load 23 (Operand.tmp 14), type := 23, pos := "make.go:558", after := #[{ on := 0, ground := Ground.data }], guard := none }) (v := ?_) rfl (by kernel_rfl) (by kernel_rfl) (by kernel_rfl) (by kernel_rfl) (by kernel_rfl) (fun _ _ _ h => h) (Or.inl ⟨by rfl, ?_⟩) hHeld ?_
      rotate_left 1
      · intro u hSu
        have q0 := (cell_of_row _ _ 0 _ _ _ hSu.out)
        go_simp
        first | done | with_reducible rfl
      (try simp only [Act.put, List.setIfInBounds_toArray, List.set_cons_zero, List.set_cons_succ])
      refine anyU_take (i := 2) (oi := { dst := some 16, op := Op.move (Operand.tmp 0), type := 26, pos := "make.go:558", after := #[], guard := none }) (v := ?_) rfl (by kernel_rfl) (by kernel_rfl) (by kernel_rfl) (by kernel_rfl) (by kernel_rfl) (fun _ _ _ h => h) (Or.inl ⟨by rfl, ?_⟩) hHeld ?_
      rotate_left 1
      · intro u hSu
        have q0 := (cell_of_row _ _ 0 _ _ _ hSu.out)
        go_simp
        first | done | with_reducible rfl
      (try simp only [Act.put, List.setIfInBounds_toArray, List.set_cons_zero, List.set_cons_succ])
      refine anyU_take (i := 3) (oi := { dst := some 17, op := Op.move (Operand.tmp 6), type := 3, pos := "make.go:558", after := #[], guard := none }) (v := ?_) rfl (by kernel_rfl) (by kernel_rfl) (by kernel_rfl) (by kernel_rfl) (by kernel_rfl) (fun _ _ _ h => h) (Or.inl ⟨by rfl, ?_⟩) hHeld ?_
      rotate_left 1
      · intro u hSu
        have q0 := (cell_of_row _ _ 0 _ _ _ hSu.out)
        go_simp
        first | done | with_reducible rfl
      (try simp only [Act.put, List.setIfInBounds_toArray, List.set_cons_zero, List.set_cons_succ])
      refine anyU_ready (rs := [4]) (by kernel_rfl) (by simp) ?_
      refine EachU.cons (o := { dst := some 18, op := Op.call { callee := Callee.value (Operand.func 23), args := #[Operand.tmp 16, Operand.tmp 17, Operand.const (Value.int IntKind.i64 0)], argTypes := #[26, 3, 3] }, type := 38, pos := "make.go:558", after := #[{ on := 2, ground := Ground.data }, { on := 3, ground := Ground.data }], guard := none }) rfl (fun Kz hK => ?_) EachU.nil
      go_simp
      go_at_call 23
      refine (adv3_any a (k : Int) 0 (by unfold I64; omega) (by unfold I64; omega) _ HD.out.st.2).mono ?_
      rintro e w5 ⟨A, rfl, hta, hok, hst, hnl⟩
      rw [show A.val = .agg #[.int .i64 A.r, .int .i64 A.q, .bool A.cp, .slice A.pL A.L.length A.cL, .slice A.pC A.C.length A.cC] from rfl]
      have HP := Lib.hid (HD.out.pend ha hst hok hnl)
      have HTA := Lib.hid hta
      clear hta hok hst hnl HD
      refine hK.out _ _ (fun _ => Lib.hid HP.out.dt.db) (fun hH2 => ?_)
      clear hK Kz hHeld
      have hHeld := hH2 rfl
      clear hH2
      (try simp only [Act.put, List.setIfInBounds_toArray, List.set_cons_zero, List.set_cons_succ])
      refine anyU_ready (rs := [5]) (by kernel_rfl) (by simp) ?_
      refine EachU.cons (o := { dst := some 19, op := Op.buildSlice 23 1 #[(0, Operand.tmp 18)], type := 23, pos := "make.go:558", after := #[{ on := 4, ground := Ground.data }], guard := none }) rfl (fun Kz hK => ?_) EachU.nil
      go_simp
      have HQ := Lib.hid (HP.out.keep (World.grownBy_alloc _ (.cells #[.int .i64 A.r, .int .i64 A.q, .bool A.cp, .slice A.pL A.L.length A.cL, .slice A.pC A.C.length A.cC] 38) none))
      clear HP
      refine hK.out _ _ (fun _ => Lib.hid HQ.out.dt.db) (fun hH2 => ?_)
      clear hK Kz hHeld
      have hHeld := hH2 rfl
      clear hH2
      (try simp only [Act.put, List.setIfInBounds_toArray, List.set_cons_zero, List.set_cons_succ])
      refine anyU_ready (rs := [6]) (by kernel_rfl) (by simp) ?_
      refine EachU.cons (o := { dst := some 20, op := Op.call { callee := Callee.builtin Builtin.append, args := #[Operand.tmp 15, Operand.tmp 19], argTypes := #[23, 23] }, type := 23, pos := "make.go:558", after := #[{ on := 1, ground := Ground.data }, { on := 5, ground := Ground.data }, { on := 4, ground := Ground.chain }], guard := none }) rfl (fun Kz hK => ?_) EachU.nil
      refine (astep_app adL 5 72 (by decide) adL_len ad_one 38 23 ia _ Try.underlying23 hia hz0 hz1 hz2 rfl (by decide) (by rfl) _ _ (by rfl) (w.heap.size + 2) v l (by rfl) HQ.out.dt.own (some ⟨_, 0, none⟩) 1 1 [A] (by rfl) rfl (by simp) (fun _ => True) (rdf_one _ trivial (cells5V _ _ _ _ _ _ _) 1) (by omega) (by simp; omega) (by have := HQ.out.dt.sz; omega) ?_)
      intro p4 c4 w8 hown hg hat
      have HD5 := Lib.hid (HQ.out.app ha hown hg hat)
      have b0 := HD5.out.e0
      have fB := frozen_of_row _ _ 0 _ _ HD5.out.db
      clear hown hg hat HQ
      refine hK.out _ _ (fun h => by cases h) (fun _ => ?_)
      clear hK Kz
      (try simp only [Act.put, List.setIfInBounds_toArray, List.set_cons_zero, List.set_cons_succ])
      refine anyU_ready (rs := [7]) (by kernel_rfl) (by simp) ?_
      refine EachU.cons (o := { dst := some 21, op := Op.fieldAddr 25 (Operand.tmp 5) 0, type := 0, pos := "make.go:558", after := #[{ on := 0, ground := Ground.phase }, { on := 1, ground := Ground.phase }, { on := 2, ground := Ground.phase }, { on := 3, ground := Ground.phase }, { on := 4, ground := Ground.phase }, { on := 5, ground := Ground.phase }, { on := 6, ground := Ground.phase }], guard := none }) rfl (fun Kz hK => ?_) EachU.nil
      go_simp
      refine hK.out _ _ (fun h => by cases h) (fun _ => ?_)
      clear hK Kz
      (try simp only [Act.put, List.setIfInBounds_toArray, List.set_cons_zero, List.set_cons_succ])
      refine anyU_ready (rs := [8]) (by kernel_rfl) (by simp) ?_
      refine EachU.cons (o := { dst := none, op := Op.store 23 (Operand.tmp 21) (Operand.tmp 20), type := 0, pos := "make.go:558", after := #[{ on := 7, ground := Ground.data }, { on := 6, ground := Ground.data }, { on := 6, ground := Ground.chain }, { on := 0, ground := Ground.phase }, { on := 1, ground := Ground.phase }, { on := 2, ground := Ground.phase }, { on := 3, ground := Ground.phase }, { on := 4, ground := Ground.phase }, { on := 5, ground := Ground.phase }, { on := 6, ground := Ground.phase }], guard := none }) rfl (fun Kz hK => ?_) EachU.nil
      go_simp
      refine hK.out _ _ (fun h => by cases h) (fun _ => ?_)
      clear hK Kz
      (try simp only [Act.put, List.setIfInBounds_toArray, List.set_cons_zero, List.set_cons_succ])
      refine anyU_done (by kernel_rfl) ?_ _
      have HN := Lib.hid (HD5.out.put ha)
      have HVA := HTA.out.valid (by omega) ⟨by omega, by omega⟩
      have HV2 : Hid (DL (l ++ [A]) ∧ DV ((k : Int) + 1) (l ++ [A])) := Lib.hid ⟨HV.out.1.add HTA.out.ll HTA.out.cl, HV.out.2.add HVA.1 HVA.2 (HTA.out.nb (by omega))⟩
      rw [show (k : Int) + 1 = ((k + 1 : Nat) : Int) by omega] at HV2
      clear HD5 hHeld b0 fB HVA
      go_wp2_with fail
      exact ⟨⟨k + 1, _, l ++ [A], by omega, by omega, congrArg _ (by omega), by rw [List.length_append]; simp; omega, HV2, HN⟩, by simp only [RowKit.intOf]; omega⟩
    · have HV2 : Hid (DL l ∧ DV ((k : Int) + 1) l) := Lib.hid ⟨HV.out.1, HV.out.2.up⟩
      rw [show (k : Int) + 1 = ((k + 1 : Nat) : Int) by omega] at HV2
      clear hx
      go_wp2_with fail
      exact ⟨⟨k + 1, v, l, by omega, by omega, congrArg _ (by omega), by omega, HV2, K1⟩, by simp only [RowKit.intOf]; omega⟩
  · obtain rfl : k = 7 := by omega
    have hlI : ¬ ((7 : Nat) : Int) ≤ 6 := by omega
    have hl6 : l.length ≤ 6 := by omega
    by_cases hn0 : 0 < n
    · go_wp2_with fail
      refine (one_any a n hn wr K.out.st.2).mono ?_
      rintro e w4 ⟨b, rfl, hs⟩
      have K1 := Lib.hid (K.out.tape ha hs)
      clear hs K
      cases b with
      | false =>
        obtain ⟨p9, c9, rfl, -, -⟩ := own_shape K1.out.own
        have hd0 := K1.out.e0
        have hz0' := cell_of_row _ _ 0 _ _ _ K1.out.zb
        have f0 := frozen_of_row _ _ 0 _ _ K1.out.zb
        have g9 := fun wz : World => grown_setCell wz ⟨w.heap.size, 0, none⟩ (.slice p9 (l).length c9)
        have HP9 := Lib.hid (dt_post (n := n) K1.out (by first | rfl | (simp; done)) ha (g9 _) (by omega) HV.out.1 (fun _ => HV.out.2))
        have HT9 := Lib.hid (d1_set (.slice p9 (l).length c9) K1.out.zb)
        clear K1 g9
        go_wp2_with fail
        refine bodyPost_ret (res_db1 rfl _ _ w.heap.size _ rfl HT9.out) rfl ?_
        exact HP9.out
      | true =>
        go_upto_region 8 with fail
        have HD := Lib.hid (K1.out.keep (grown_drew (grown_refl w4 none)))
        clear K1
        refine region_until (S := fun w' => Hid (w'.heap[w.heap.size + 1]? = some (.cells #[v] 25 (0, 0)))) (fun j => j == 8 || j == 9 || j == 10) (by kernel_rfl) (Lib.hid HD.out.db) (fun hHeld => ?_)
        refine anyU_take (i := 0) (oi := { dst := some 29, op := Op.fieldAddr 25 (Operand.tmp 5) 0, type := 0, pos := "make.go:562", after := #[], guard := none }) (v := ?_) rfl (by kernel_rfl) (by kernel_rfl) (by kernel_rfl) (by kernel_rfl) (by kernel_rfl) (fun _ _ _ h => h) (Or.inl ⟨by rfl, ?_⟩) hHeld ?_
        rotate_left 1
        · intro u hSu
          have q0 := (cell_of_row _ _ 0 _ _ _ hSu.out)
          go_simp
          first | done | with_reducible rfl
        (try simp only [Act.put, List.setIfInBounds_toArray, List.set_cons_zero, List.set_cons_succ])
        refine anyU_take (i := 1) (oi := { dst := some 30, op := Op.load 23 (Operand.tmp 29), type := 23, pos := "make.go:562", after := #[{ on := 0, ground := Ground.data }], guard := none }) (v := ?_) rfl (by kernel_rfl) (by kernel_rfl) (by kernel_rfl) (by kernel_rfl) (by kernel_rfl) (fun _ _ _ h => h) (Or.inl ⟨by rfl, ?_⟩) hHeld ?_
        rotate_left 1
        · intro u hSu
          have q0 := (cell_of_row _ _ 0 _ _ _ hSu.out)
          go_simp
          first | done | with_reducible rfl
        (try simp only [Act.put, List.setIfInBounds_toArray, List.set_cons_zero, List.set_cons_succ])
        refine anyU_take (i := 2) (oi := { dst := some 31, op := Op.move (Operand.tmp 0), type := 26, pos := "make.go:562", after := #[], guard := none }) (v := ?_) rfl (by kernel_rfl) (by kernel_rfl) (by kernel_rfl) (by kernel_rfl) (by kernel_rfl) (fun _ _ _ h => h) (Or.inl ⟨by rfl, ?_⟩) hHeld ?_
        rotate_left 1
        · intro u hSu
          have q0 := (cell_of_row _ _ 0 _ _ _ hSu.out)
          go_simp
          first | done | with_reducible rfl
        (try simp only [Act.put, List.setIfInBounds_toArray, List.set_cons_zero, List.set_cons_succ])
        refine anyU_take (i := 3) (oi := { dst := some 32, op := Op.move (Operand.tmp 0), type := 26, pos := "make.go:562", after := #[], guard := none }) (v := ?_) rfl (by kernel_rfl) (by kernel_rfl) (by kernel_rfl) (by kernel_rfl) (by kernel_rfl) (fun _ _ _ h => h) (Or.inl ⟨by rfl, ?_⟩) hHeld ?_
        rotate_left 1
        · intro u hSu
          have q0 := (cell_of_row _ _ 0 _ _ _ hSu.out)
          go_simp
          first | done | with_reducible rfl
        (try simp only [Act.put, List.setIfInBounds_toArray, List.set_cons_zero, List.set_cons_succ])
        refine anyU_ready (rs := [4]) (by kernel_rfl) (by simp) ?_
        refine EachU.cons (o := { dst := some 33, op := Op.buildSlice 22 3 #[(0, Operand.const (Value.int IntKind.i64 1)), (1, Operand.const (Value.int IntKind.i64 6)), (2, Operand.const (Value.int IntKind.i64 7))], type := 22, pos := "make.go:562", after := #[], guard := none }) rfl (fun Kz hK => ?_) EachU.nil
        go_simp
        have HM0 := among_list I64 _ a [1, 6, 7] #[.int .i64 1, .int .i64 6, .int .i64 7] 3 HD.out.st.2.lt rfl (by intro x hx; simp only [List.mem_cons, List.not_mem_nil, or_false] at hx; unfold I64; omega)
        have HM : Hid (Among I64 _ a _ 0 3) := Lib.hid HM0
        clear HM0
        have HDn := Lib.hid (HD.out.keep (World.grownBy_alloc _ (.cells #[.int .i64 1, .int .i64 6, .int .i64 7] 3) none))
        clear HD
        have HD := HDn
        clear HDn
        refine hK.out _ _ (fun _ => Lib.hid HD.out.db) (fun hH2 => ?_)
        clear hK Kz hHeld
        have hHeld := hH2 rfl
        clear hH2
        (try simp only [Act.put, List.setIfInBounds_toArray, List.set_cons_zero, List.set_cons_succ])
        refine anyU_ready (rs := [5]) (by kernel_rfl) (by simp) ?_
        refine EachU.cons (o := { dst := some 34, op := Op.call { callee := Callee.value (Operand.func 46), args := #[Operand.tmp 32, Operand.tmp 33], argTypes := #[26, 22] }, type := 3, pos := "make.go:562", after := #[{ on := 3, ground := Ground.data }, { on := 4, ground := Ground.data }], guard := none }) rfl (fun Kz hK => ?_) EachU.nil
        go_simp
        go_at_call 46
        refine (pick_any I64 a _ 0 3 3 (by omega) (by omega) _ HD.out.st.2 HM.out).mono ?_
        rintro e w5 ⟨R, rfl, hR, hs⟩
        have HR := Lib.hid hR
        have HDn := Lib.hid (HD.out.tape ha hs)
        clear hs hR HD HM
        have HD := HDn
        clear HDn
        refine hK.out _ _ (fun _ => Lib.hid HD.out.db) (fun hH2 => ?_)
        clear hK Kz hHeld
        have hHeld := hH2 rfl
        clear hH2
        (try simp only [Act.put, List.setIfInBounds_toArray, List.set_cons_zero, List.set_cons_succ])
        refine anyU_ready (rs := [6]) (by kernel_rfl) (by simp) ?_
        refine EachU.cons (o := { dst := some 35, op := Op.call { callee := Callee.value (Operand.func 23), args := #[Operand.tmp 31, Operand.tmp 34, Operand.const (Value.int IntKind.i64 2)], argTypes := #[26, 3, 3] }, type := 38, pos := "make.go:562", after := #[{ on := 2, ground := Ground.data }, { on := 5, ground := Ground.data }, { on := 5, ground := Ground.chain }], guard := none }) rfl (fun Kz hK => ?_) EachU.nil
        go_simp
        go_at_call 23
        refine (adv3_any a R 2 HR.out (by unfold I64; omega) _ HD.out.st.2).mono ?_
        rintro e w5 ⟨A, rfl, hta, hok, hst, hnl⟩
        rw [show A.val = .agg #[.int .i64 A.r, .int .i64 A.q, .bool A.cp, .slice A.pL A.L.length A.cL, .slice A.pC A.C.length A.cC] from rfl]
        have HP := Lib.hid (HD.out.pend ha hst hok hnl)
        have HTA := Lib.hid hta
        clear hta hok hst hnl HD
        refine hK.out _ _ (fun _ => Lib.hid HP.out.dt.db) (fun hH2 => ?_)
        clear hK Kz hHeld
        have hHeld := hH2 rfl
        clear hH2
        (try simp only [Act.put, List.setIfInBounds_toArray, List.set_cons_zero, List.set_cons_succ])
        refine anyU_ready (rs := [7]) (by kernel_rfl) (by simp) ?_
        refine EachU.cons (o := { dst := some 36, op := Op.buildSlice 23 1 #[(0, Operand.tmp 35)], type := 23, pos := "make.go:562", after := #[{ on := 6, ground := Ground.data }], guard := none }) rfl (fun Kz hK => ?_) EachU.nil
        go_simp
        have HQ := Lib.hid (HP.out.keep (World.grownBy_alloc _ (.cells #[.int .i64 A.r, .int .i64 A.q, .bool A.cp, .slice A.pL A.L.length A.cL, .slice A.pC A.C.length A.cC] 38) none))
        clear HP
        refine hK.out _ _ (fun _ => Lib.hid HQ.out.dt.db) (fun hH2 => ?_)
        clear hK Kz hHeld
        have hHeld := hH2 rfl
        clear hH2
        (try simp only [Act.put, List.setIfInBounds_toArray, List.set_cons_zero, List.set_cons_succ])
        refine anyU_ready (rs := [8]) (by kernel_rfl) (by simp) ?_
        refine EachU.cons (o := { dst := some 37, op := Op.call { callee := Callee.builtin Builtin.append, args := #[Operand.tmp 30, Operand.tmp 36], argTypes := #[23, 23] }, type := 23, pos := "make.go:562", after := #[{ on := 1, ground := Ground.data }, { on := 7, ground := Ground.data }, { on := 6, ground := Ground.chain }], guard := none }) rfl (fun Kz hK => ?_) EachU.nil
        refine (astep_app adL 5 72 (by decide) adL_len ad_one 38 23 ia _ Try.underlying23 hia hz0 hz1 hz2 rfl (by decide) (by rfl) _ _ (by rfl) (w.heap.size + 2) v l (by rfl) HQ.out.dt.own (some ⟨_, 0, none⟩) 1 1 [A] (by rfl) rfl (by simp) (fun _ => True) (rdf_one _ trivial (cells5V _ _ _ _ _ _ _) 1) (by omega) (by simp; omega) (by have := HQ.out.dt.sz; omega) ?_)
        intro p4 c4 w8 hown hg hat
        have HD5 := Lib.hid (HQ.out.app ha hown hg hat)
        have b0 := HD5.out.e0
        have fB := frozen_of_row _ _ 0 _ _ HD5.out.db
        clear hown hg hat HQ
        refine hK.out _ _ (fun h => by cases h) (fun _ => ?_)
        clear hK Kz
        (try simp only [Act.put, List.setIfInBounds_toArray, List.set_cons_zero, List.set_cons_succ])
        refine anyU_ready (rs := [9]) (by kernel_rfl) (by simp) ?_
        refine EachU.cons (o := { dst := some 38, op := Op.fieldAddr 25 (Operand.tmp 5) 0, type := 0, pos := "make.go:562", after := #[{ on := 0, ground := Ground.phase }, { on := 1, ground := Ground.phase }, { on := 2, ground := Ground.phase }, { on := 3, ground := Ground.phase }, { on := 4, ground := Ground.phase }, { on := 5, ground := Ground.phase }, { on := 6, ground := Ground.phase }, { on := 7, ground := Ground.phase }, { on := 8, ground := Ground.phase }], guard := none }) rfl (fun Kz hK => ?_) EachU.nil
        go_simp
        refine hK.out _ _ (fun h => by cases h) (fun _ => ?_)
        clear hK Kz
        (try simp only [Act.put, List.setIfInBounds_toArray, List.set_cons_zero, List.set_cons_succ])
        refine anyU_ready (rs := [10]) (by kernel_rfl) (by simp) ?_
        refine EachU.cons (o := { dst := none, op := Op.store 23 (Operand.tmp 38) (Operand.tmp 37), type := 0, pos := "make.go:562", after := #[{ on := 9, ground := Ground.data }, { on := 8, ground := Ground.data }, { on := 8, ground := Ground.chain }, { on := 0, ground := Ground.phase }, { on := 1, ground := Ground.phase }, { on := 2, ground := Ground.phase }, { on := 3, ground := Ground.phase }, { on := 4, ground := Ground.phase }, { on := 5, ground := Ground.phase }, { on := 6, ground := Ground.phase }, { on := 7, ground := Ground.phase }, { on := 8, ground := Ground.phase }], guard := none }) rfl (fun Kz hK => ?_) EachU.nil
        go_simp
        refine hK.out _ _ (fun h => by cases h) (fun _ => ?_)
        clear hK Kz
        (try simp only [Act.put, List.setIfInBounds_toArray, List.set_cons_zero, List.set_cons_succ])
        refine anyU_done (by kernel_rfl) ?_ _
        have K1 := Lib.hid (HD5.out.put ha)
        have HVA : Hid (DL (l ++ [A])) := Lib.hid (HV.out.1.add HTA.out.ll HTA.out.cl)
        clear HD5 hHeld b0 fB
        go_upto_region 9 with fail
        generalize World.setCell _ _ _ = w9 at *
        have hd0 := K1.out.e0
        have hz0' := cell_of_row _ _ 0 _ _ _ K1.out.zb
        have f0 := frozen_of_row _ _ 0 _ _ K1.out.zb
        have g9 := fun wz : World => grown_setCell wz ⟨w.heap.size, 0, none⟩ (.slice p4 (l.length + [A].length) c4)
        have HP9 := Lib.hid (dt_post (n := n) K1.out (by first | rfl | (simp; done)) ha (g9 _) (by rw [List.length_append]; simp; omega) HVA.out (fun h => absurd hn0 h))
        have HT9 := Lib.hid (d1_set (.slice p4 (l.length + [A].length) c4) K1.out.zb)
        clear K1 g9
        go_wp2_with fail
        refine bodyPost_ret (res_db1 rfl _ _ w.heap.size _ rfl HT9.out) rfl ?_
        exact HP9.out
    · have K1 := K
      clear K
      obtain ⟨p9, c9, rfl, -, -⟩ := own_shape K1.out.own
      have hd0 := K1.out.e0
      have hz0' := cell_of_row _ _ 0 _ _ _ K1.out.zb
      have f0 := frozen_of_row _ _ 0 _ _ K1.out.zb
      have g9 := fun wz : World => grown_setCell wz ⟨w.heap.size, 0, none⟩ (.slice p9 (l).length c9)
      have HP9 := Lib.hid (dt_post (n := n) K1.out (by first | rfl | (simp; done)) ha (g9 _) (by omega) HV.out.1 (fun _ => HV.out.2))
      have HT9 := Lib.hid (d1_set (.slice p9 (l).length c9) K1.out.zb)
      clear K1 g9
      go_wp2_with fail
      refine bodyPost_ret (res_db1 rfl _ _ w.heap.size _ rfl HT9.out) rfl ?_
      exact HP9.out
end Go.Proofs.Ytnpkihioklpnmaa

/- database: Put. -/
namespace Go.Proofs.Ytnpkihioklpnmaa
open Go.RowKit Bs
end Go.Proofs.Ytnpkihioklpnmaa

/- The reference's With. -/
namespace Go.Proofs.Ytnpkihioklpnmaa
open Go.RowKit Bs
/-! With, step by step. -/
section
variable {W w w1 : World} {l acc : List Ad} {p : Option Addr} {c : Nat} {A B : Ad} {q : Nat → Prop} {u v v' : Value}
end
end Go.Proofs.Ytnpkihioklpnmaa

/- The reference's Check of databases. -/
namespace Go.Proofs.Ytnpkihioklpnmaa
open Go.RowKit Bs
end Go.Proofs.Ytnpkihioklpnmaa

/- advert: the order of the encodings of valid adverts is that of their fields. -/
namespace Go.Proofs.Ytnpkihioklpnmaa
open Go.RowKit Bs
end Go.Proofs.Ytnpkihioklpnmaa

/- What the reference's Append gives lies in memory of the call's own. -/
namespace Go.Proofs.Ytnpkihioklpnmaa
open Go.RowKit Bs
end Go.Proofs.Ytnpkihioklpnmaa

/- What the reference's Align gives back, where its argument lies in memory of the call's own. -/
namespace Go.Proofs.Ytnpkihioklpnmaa
open Go.RowKit Bs
end Go.Proofs.Ytnpkihioklpnmaa

/- The reference's put of adverts: its bytes are new; Align of bytes of one's own. -/
namespace Go.Proofs.Ytnpkihioklpnmaa
open Go.RowKit Bs
end Go.Proofs.Ytnpkihioklpnmaa

/- The reference's Encode of adverts. -/
namespace Go.Proofs.Ytnpkihioklpnmaa
open Go.RowKit Bs
end Go.Proofs.Ytnpkihioklpnmaa

/- The reference's Newer of adverts. -/
namespace Go.Proofs.Ytnpkihioklpnmaa
open Go.RowKit Bs
end Go.Proofs.Ytnpkihioklpnmaa

/- The reference's Put. -/
namespace Go.Proofs.Ytnpkihioklpnmaa
open Go.RowKit Bs
section
variable {W w w1 : World} {l : List Ad} {p : Option Addr} {c : Nat} {A B : Ad} {q : Nat → Prop} {u v v' : Value}
end
end Go.Proofs.Ytnpkihioklpnmaa

/- database: Merge. -/
namespace Go.Proofs.Ytnpkihioklpnmaa
open Go.RowKit Bs
section
variable {W w w1 : World} {a b m : List Ad} {p p2 p' : Option Addr} {c c2 c' base : Nat} {v : Value}
end
end Go.Proofs.Ytnpkihioklpnmaa

/- The reference's Merge. -/
namespace Go.Proofs.Ytnpkihioklpnmaa
open Go.RowKit Bs
set_option maxRecDepth 100000 in
theorem RdA.and {w : World} {q : Nat → Prop} {v : Value} {l : List Ad} (h : RdA w q v l) : RdA w (fun b => q b ∧ b < w.heap.size) v l := ⟨rdf_and h.row, fun A hA => (h.ok A hA).and, h.nl⟩
section
variable {W w w1 : World} {m m2 b : List Ad} {p p2 p3 : Option Addr} {c c2 c3 : Nat} {q : Nat → Prop}
end
end Go.Proofs.Ytnpkihioklpnmaa

/- database.View: the topology around a router. -/
namespace Go.Proofs.Ytnpkihioklpnmaa
open Go.RowKit Bs
set_option maxRecDepth 100000 in
set_option maxHeartbeats 12800000 in
theorem dview_any (l : List Ad) (r : Int) (p : Option Addr) (c : Nat) (q : Nat → Prop) (w : World) (hR : RdA w q (.slice p l.length c) l) (hm : l.length ≤ 9223372036854775807) :
    Calls Try.prog 34 #[.agg #[.slice p l.length c], .int .i64 r] w fun e w' => VwPost l r w e w' := by
  obtain ⟨ir, hir, hr0, hr1, hr2⟩ := info_parts info_rtV
  obtain ⟨il, hil, hl0, hl1, hl2⟩ := info_parts info_lkV
  obtain ⟨k1, k2, k3, -⟩ := two_boxes w #[.slice p l.length c] #[.slice none 0 0, .slice none 0 0] 25 59
  have H0 := Lib.hid (And.intro k1 (And.intro k2 (And.intro k3 ((RdA.old hR).keep k3))))
  clear k1 k2 k3 hR
  go_enter Try.func34, Try.ntmps34
  go_upto_region 1 with fail
  generalize World.alloc (w.alloc _) _ = wa at *
  have c0 : wa.cell? ⟨w.heap.size, 0, none⟩ = some (.slice p l.length c) := cell_of_row _ _ _ _ _ _ H0.out.1
  go_wp2_with fail
  refine (dvalid_any l p c _ wa H0.out.2.2.2 hm).mono ?_
  rintro e w1 ⟨rfl, hg⟩
  have H1 := Lib.hid (And.intro (kept_row H0.out.1 hg (by simp)) (And.intro (kept_row H0.out.2.1 hg (by simp)) (And.intro (grown_trans H0.out.2.2.1 hg) (H0.out.2.2.2.keep hg))))
  clear hg H0 c0
  obtain ⟨ov, hov⟩ : ∃ ov, okD l = ov := ⟨_, rfl⟩
  rw [hov]
  cases ov with
  | false =>
    have HV : Hid (viewV l r = ([], [])) := Lib.hid (by unfold viewV; rw [if_neg (by rw [hov]; decide)])
    clear hov
    have z0 := cell_of_row _ _ 0 _ _ _ H1.out.2.1
    have z1 := cell_of_row _ _ 1 _ _ _ H1.out.2.1
    have f0 := frozen_of_row _ _ 0 _ _ H1.out.2.1
    have f1 := frozen_of_row _ _ 1 _ _ H1.out.2.1
    obtain ⟨t1, t2⟩ := store2c (.slice none 0 0) (.slice none 0 0) H1.out.2.1
    have HT := Lib.hid (And.intro t1 (grown_new H1.out.2.2.1 t2 (by omega)))
    clear t1 t2 H1
    go_wp2_with fail
    refine bodyPost_ret (res_topoV rfl _ _ (w.heap.size + 1) _ _ rfl HT.out.1) rfl ?_
    exact vw_no HV.out HT.out.2
  | true =>
  have HOV : Hid (OkD l) := Lib.hid (chk_OkD (by unfold okD at hov; simpa using hov))
  have HVW : Hid (viewV l r = if chk (vwR l (reS l r)) (vwL l (reS l r)) = 0 then (vwR l (reS l r), vwL l (reS l r)) else ([], [])) := Lib.hid (by unfold viewV; rw [if_pos hov])
  have HP := Lib.hid HOV.out.pair
  have hll := HOV.out.len
  have HRNG : Hid (∀ A ∈ l, (1 ≤ A.r ∧ A.r ≤ 99) ∧ A.L.length ≤ 23) := Lib.hid (fun A hA => ⟨(VA.of (HOV.out.v A hA)).r, (VA.of (HOV.out.v A hA)).ll⟩)
  clear hov
  have c0 : w1.cell? ⟨w.heap.size, 0, none⟩ = some (.slice p l.length c) := cell_of_row _ _ _ _ _ _ H1.out.1
  go_wp2_with fail
  refine (dreached_any l r p c _ w1 H1.out.2.2.2 HOV.out).mono ?_
  rintro e w2 ⟨vm, rfl, hmv, hg⟩
  obtain ⟨S, hS⟩ : ∃ S, reS l r = S := ⟨_, rfl⟩
  rw [hS] at hmv HVW
  have g2 := grown_trans H1.out.2.2.1 hg
  have ga := World.grownBy_alloc w2 (.cells #[.slice none 0 0, .slice none 0 0] 59) none
  have hsz2 : w.heap.size + 1 < w2.heap.size := World.lt_of_row' (kept_row H1.out.2.1 hg (by simp))
  have hsz1 := H1.out.2.2.1.size
  have K0 : Hid (VS w l p c w2.heap.size S vm (.slice none 0 0) (.slice none 0 0) (.slice none 0 0) (.slice none 0 0) [] [] (w2.alloc (.cells #[.slice none 0 0, .slice none 0 0] 59))) := Lib.hid
    ⟨(H1.out.2.2.2.keep hg).keep ga, kept_row (kept_row H1.out.1 hg (by simp)) ga (by simp), kept_row (kept_row H1.out.2.1 hg (by simp)) ga (by simp), heap_alloc_new w2 _, World.ownsRow_nil _ _ _ _, World.ownsRow_nil _ _ _ _, (fun g h => by cases h),
      (hmv.mono (q' := fun b => w.heap.size ≤ b ∧ b < w2.heap.size) (fun b hb hlt => ⟨by omega, hlt⟩)).keep ga, hsz2, World.lt_of_row' (heap_alloc_new w2 _), grown_trans g2 ga⟩
  clear H1 c0 hS hmv hg g2 ga hsz1 hsz2
  go_upto_region 5 with fail
  generalize w2.alloc _ = w3 at *
  generalize w2.heap.size = B at *
  have c0 : w3.cell? ⟨w.heap.size, 0, none⟩ = some (.slice p l.length c) := cell_of_row _ _ _ _ _ _ K0.out.d
  go_wp2_with fail
  clear c0
  go_loopw [22] (fun a wr => ∃ (k : Nat) (vR vL : Value) (R : List Rt) (L : List Lk), k ≤ l.length ∧ a = .int .i64 (k : Int) ∧ R.length ≤ k ∧ L.length ≤ 23 * k ∧ Hid (((l.take k).filter (inV S)).map toR = R ∧ ((l.take k).filter (inV S)).flatMap (vL1 l) = L) ∧ Hid (VS w l p c B S vm vR vL vR vL R L wr)) (fun a _ => l.length - (RowKit.intOf a).toNat)
  case atStart => exact ⟨0, _, _, [], [], Nat.zero_le _, rfl, Nat.le_refl _, Nat.zero_le _, Lib.hid ⟨rfl, rfl⟩, K0⟩
  case round =>
  obtain ⟨k, vR, vL, R, L, hk, rfl, hRk, hLk, HI, K⟩ := hrel
  clear K0
  by_cases hlt : k < l.length
  · obtain ⟨-, b1, off1, rfl, -, -⟩ := rda_cells K.out.db (by omega)
    obtain ⟨A, hA⟩ : ∃ A, l[k]? = some A := ⟨_, List.getElem?_eq_getElem hlt⟩
    obtain ⟨a0, a1, a2, a3, a4⟩ := rda_at K.out.db hA
    have HAM := Lib.hid (List.mem_of_getElem? hA)
    have HST := Lib.hid (vw_step (S := S) hA)
    have hAI : I64 A.r := by have := (HRNG.out A HAM.out).1; unfold I64; omega
    have hAL := (HRNG.out A HAM.out).2
    have gal := World.grownBy_alloc wr (.cells #[.int .i64 A.r, .int .i64 A.q, .bool A.cp, .slice A.pL A.L.length A.cL, .slice A.pC A.C.length A.cC] 38) none
    have KB : Hid (VB w l (some ⟨b1, off1, none⟩) c B S vm vR vL vR vL R L A wr.heap.size (wr.alloc (.cells #[.int .i64 A.r, .int .i64 A.q, .bool A.cp, .slice A.pL A.L.length A.cL, .slice A.pC A.C.length A.cC] 38))) := Lib.hid
      ⟨K.out.keep gal, heap_alloc_new wr _, fun e => by have := (K.out.oR.lt _ e).2; omega, fun e => by have := (K.out.oL.lt _ e).2; omega, K.out.sz, World.lt_of_row' (heap_alloc_new wr _)⟩
    clear hA gal K
    go_upto_region 8 with fail
    clear a0 a1 a2 a3 a4
    generalize wr.alloc _ = wy at *
    generalize wr.heap.size = X at *
    obtain ⟨d0, d1, d2, d3, d4⟩ := row5 KB.out.a
    have hlook := KB.out.s.mp.look hAI
    obtain ⟨bs, hbs⟩ : ∃ bs, inS S A.r = bs := ⟨_, rfl⟩
    rw [hbs] at hlook
    cases bs with
    | false =>
      have HN : Hid (((l.take (k + 1)).filter (inV S)).map toR = R ∧ ((l.take (k + 1)).filter (inV S)).flatMap (vL1 l) = L) := Lib.hid (by rw [HST.out.1, HST.out.2, hbs, HI.out.1, HI.out.2]; simp)
      have KN := Lib.hid KB.out.s
      clear hbs KB
      go_wp2_with fail
      exact ⟨⟨k + 1, vR, vL, R, L, by omega, congrArg _ (by omega), by omega, by omega, HN, KN⟩, by simp only [RowKit.intOf]; omega⟩
    | true =>
      have HN : Hid (((l.take (k + 1)).filter (inV S)).map toR = R ++ [toR A] ∧ ((l.take (k + 1)).filter (inV S)).flatMap (vL1 l) = L ++ vL1 l A) := Lib.hid (by rw [HST.out.1, HST.out.2, hbs, HI.out.1, HI.out.2]; simp)
      clear hbs HST HI
      go_upto_region 9 with fail
      clear hlook
      obtain ⟨b0, b2⟩ := row_cells KB.out.s.t
      go_wp2_with (at_builtin; refine hold_on ?_)
      refine Lib.hid ?_
      have gr2 := World.grownBy_alloc wy (.cells #[.int .i64 A.r, .bool A.cp] 69) none
      have KC := Lib.hid (KB.out.keep gr2)
      clear gr2
      refine wpList_append_own_at _ rfl _ _ 56 rfl (B + 1) 69 ir (.agg #[.int .i64 0, .bool false]) 2 16 Try.underlying56 hir hr0 hr1 hr2 rfl (by decide) vR R.length (R.flatMap rtC) (by rfl) KC.out.s.oR ⟨wy.heap.size, 0, none⟩ 1 1 (rtC (toR A)) (by rfl) rfl (cells2V _ _ _ _) (rtV_one _) (by unfold maxLen; omega) (by omega) (by have := KC.out.s.sz; omega) ?_
      intro v' w9 hown hg _ hat
      have hfl : R.flatMap rtC ++ rtC (toR A) = (R ++ [toR A]).flatMap rtC := by rw [List.flatMap_append, List.flatMap_cons, List.flatMap_nil, List.append_nil]
      have hRl : (R ++ [toR A]).length = R.length + 1 := by rw [List.length_append]; rfl
      obtain ⟨p5, c5, rfl, -, -⟩ := own_shape hown
      have hown2 : w9.ownsRow (B + 1) 69 2 (.slice p5 (R.length + 1) c5) (R ++ [toR A]).length ((R ++ [toR A]).flatMap rtC) := by rw [hRl, ← hfl]; exact hown
      have K9 := Lib.hid (KC.out.addR hown2 hg hat)
      clear hown hown2 hRl hg hat hfl KB KC b0 b2 d0 d1 d2 d3 d4
      simp only [Act.put, List.setIfInBounds_toArray, List.set_cons_zero, List.set_cons_succ]
      obtain ⟨b0, b2⟩ := row_cells K9.out.s.t
      have f0 := frozen_of_row _ _ 0 _ _ K9.out.s.t
      have K10 := Lib.hid K9.out.putR
      go_upto_region 10 with fail
      clear b0 b2 f0 K9
      generalize w9.setCell _ _ = w10 at *
      obtain ⟨d0, d1, d2, d3, d4⟩ := row5 K10.out.a
      have c0 : w10.cell? ⟨w.heap.size, 0, none⟩ = some (.slice (some ⟨b1, off1, none⟩) l.length c) := cell_of_row _ _ _ _ _ _ K10.out.s.d
      go_wp2_with fail
      refine (dlinked_any l A (some ⟨b1, off1, none⟩) c _ w10 K10.out.s.db (K10.out.s.db.ok A HAM.out) HP.out (by omega) (by omega)).mono ?_
      rintro e w5 ⟨pm, cm, rfl, hM, hMl, hg⟩
      have hlen := lnk_len l A
      have HVL : Hid (vL1 l A = ((lnk l A).filter (ltA A)).map (btw A)) := Lib.hid rfl
      obtain ⟨M, hMM⟩ : ∃ M, lnk l A = M := ⟨_, rfl⟩
      rw [hMM] at hM hMl hlen HVL ⊢
      have HMM := Lib.hid hMM
      have C0 : Hid (VI w l (some ⟨b1, off1, none⟩) c B S vm (.slice p5 (R.length + 1) c5) vL (.slice p5 (R.length + 1) c5) vL (R ++ [toR A]) L A X pm cm M w10.heap.size w5.heap.size w5) := Lib.hid ⟨K10.out.keep hg, hM, fun g h => .inl (K10.out.s.oL.lt g h).2, K10.out.s.sz, Nat.le_refl _⟩
      clear hM hg hMM d0 d1 d2 d3 d4 c0 K10
      generalize w10.heap.size = h7 at *
      generalize w5.heap.size = h8 at *
      have hMx : M.length ≤ 23 := by omega
      clear hlen
      go_wp2_with fail
      go_loopw [46] (fun a wq => ∃ (j : Nat) (vL2 : Value) (L2 : List Lk), j ≤ M.length ∧ a = .int .i64 (j : Int) ∧ L2.length ≤ L.length + j ∧ Hid (L ++ ((M.take j).filter (ltA A)).map (btw A) = L2) ∧ Hid (VI w l (some ⟨b1, off1, none⟩) c B S vm (.slice p5 (R.length + 1) c5) vL2 (.slice p5 (R.length + 1) c5) vL2 (R ++ [toR A]) L2 A X pm cm M h7 h8 wq)) (fun a _ => M.length - (RowKit.intOf a).toNat)
      case atStart => exact ⟨0, vL, L, Nat.zero_le _, rfl, Nat.le_refl _, Lib.hid (by simp), C0⟩
      case round =>
      obtain ⟨j, vL2, L2, hj, rfl, hL2, HL, C⟩ := hrel
      clear C0
      by_cases hlt2 : j < M.length
      · obtain ⟨-, bm, offm, rfl, -, -⟩ := RdF.cells (f := adL) (k := 5) adL_len (by decide) C.out.m (by omega)
        obtain ⟨x, hx⟩ : ∃ x, M[j]? = some x := ⟨_, List.getElem?_eq_getElem hlt2⟩
        have hcx : wr.cell? ⟨bm, offm + j * 5, none⟩ = some (.int .i64 x.r) ∧ wr.cell? ⟨bm, offm + j * 5 + 1, none⟩ = some (.int .i64 x.q) ∧ wr.cell? ⟨bm, offm + j * 5 + 2, none⟩ = some (.bool x.cp) ∧ wr.cell? ⟨bm, offm + j * 5 + 3, none⟩ = some (.slice x.pL x.L.length x.cL) ∧ wr.cell? ⟨bm, offm + j * 5 + 4, none⟩ = some (.slice x.pC x.C.length x.cC) := by
          obtain ⟨-, b', o', e, -, hc⟩ := RdF.cells (f := adL) (k := 5) adL_len (by decide) C.out.m (by omega)
          injection e with e
          injection e with e1 e2
          subst e1
          subst e2
          exact ⟨hc j x hx 0 _ rfl, hc j x hx 1 _ rfl, hc j x hx 2 _ rfl, hc j x hx 3 _ rfl, hc j x hx 4 _ rfl⟩
        obtain ⟨a0, a1, a2, a3, a4⟩ := hcx
        have hxm : x ∈ l := by
          have := List.mem_of_getElem? hx
          rw [← HMM.out] at this
          exact lnk_mem this
        have HXM := Lib.hid hxm
        have HFS := Lib.hid (flt_step (A := A) hx)
        have gal := World.grownBy_alloc wr (.cells #[.int .i64 x.r, .int .i64 x.q, .bool x.cp, .slice x.pL x.L.length x.cL, .slice x.pC x.C.length x.cC] 38) none
        have C1 : Hid (VI w l (some ⟨b1, off1, none⟩) c B S vm (.slice p5 (R.length + 1) c5) vL2 (.slice p5 (R.length + 1) c5) vL2 (R ++ [toR A]) L2 A X (some ⟨bm, offm, none⟩) cm M h7 h8 (wr.alloc (.cells #[.int .i64 x.r, .int .i64 x.q, .bool x.cp, .slice x.pL x.L.length x.cL, .slice x.pC x.C.length x.cC] 38)) ∧ (wr.alloc (.cells #[.int .i64 x.r, .int .i64 x.q, .bool x.cp, .slice x.pL x.L.length x.cL, .slice x.pC x.C.length x.cC] 38)).heap[wr.heap.size]? = some (.cells #[.int .i64 x.r, .int .i64 x.q, .bool x.cp, .slice x.pL x.L.length x.cL, .slice x.pC x.C.length x.cC] 38 (0, 0))) := Lib.hid ⟨C.out.keep gal, heap_alloc_new wr _⟩
        clear hx hxm gal C
        go_upto_region 13 with fail
        clear a0 a1 a2 a3 a4
        generalize wr.alloc _ = wy at *
        generalize wr.heap.size = Y at *
        obtain ⟨d0, d1, d2, d3, d4⟩ := row5 C1.out.1.b.a
        obtain ⟨e0, e1, e2, e3, e4⟩ := row5 C1.out.2
        by_cases hlr : A.r < x.r
        · have HF : Hid (L ++ ((M.take (j + 1)).filter (ltA A)).map (btw A) = L2 ++ [btw A x]) := Lib.hid (by rw [HFS.out, if_pos hlr, ← List.append_assoc, HL.out])
          clear HFS HL
          go_upto_region 14 with fail
          have HD := Lib.hid (And.intro (C1.out.1.keep (grown_drew (grown_refl wy none))) (kept_row C1.out.2 (grown_drew (grown_refl wy none)) (by simp)))
          clear C1 d0 d1 d2 d3 d4 e0 e1 e2 e3 e4
          refine region_until (S := fun w' => Hid (VI w l (some ⟨b1, off1, none⟩) c B S vm (.slice p5 (R.length + 1) c5) vL2 (.slice p5 (R.length + 1) c5) vL2 (R ++ [toR A]) L2 A X (some ⟨bm, offm, none⟩) cm M h7 h8 w' ∧ w'.heap[Y]? = some (.cells #[.int .i64 x.r, .int .i64 x.q, .bool x.cp, .slice x.pL x.L.length x.cL, .slice x.pC x.C.length x.cC] 38 (0, 0)))) (fun j => j == 6 || j == 7 || j == 8) (by kernel_rfl) (HD) (fun hHeld => ?_)
          refine anyU_take (i := 0) (oi := { dst := some 55, op := Op.fieldAddr 59 (Operand.tmp 6) 1, type := 0, pos := "database.go:76", after := #[], guard := none }) (v := ?_) rfl (by kernel_rfl) (by kernel_rfl) (by kernel_rfl) (by kernel_rfl) (by kernel_rfl) (fun _ _ _ h => h) (Or.inl ⟨by rfl, ?_⟩) hHeld ?_
          rotate_left 1
          · intro u hSu
            obtain ⟨b0, b2⟩ := row_cells hSu.out.1.b.s.t
            obtain ⟨d0, d1, d2, d3, d4⟩ := row5 hSu.out.1.b.a
            obtain ⟨e0, e1, e2, e3, e4⟩ := row5 hSu.out.2
            go_simp
            first | done | with_reducible rfl
          (try simp only [Act.put, List.setIfInBounds_toArray, List.set_cons_zero, List.set_cons_succ])
          refine anyU_take (i := 1) (oi := { dst := some 56, op := Op.load 57 (Operand.tmp 55), type := 57, pos := "database.go:76", after := #[{ on := 0, ground := Ground.data }], guard := none }) (v := ?_) rfl (by kernel_rfl) (by kernel_rfl) (by kernel_rfl) (by kernel_rfl) (by kernel_rfl) (fun _ _ _ h => h) (Or.inl ⟨by rfl, ?_⟩) hHeld ?_
          rotate_left 1
          · intro u hSu
            obtain ⟨b0, b2⟩ := row_cells hSu.out.1.b.s.t
            obtain ⟨d0, d1, d2, d3, d4⟩ := row5 hSu.out.1.b.a
            obtain ⟨e0, e1, e2, e3, e4⟩ := row5 hSu.out.2
            go_simp
            first | done | with_reducible rfl
          (try simp only [Act.put, List.setIfInBounds_toArray, List.set_cons_zero, List.set_cons_succ])
          refine anyU_take (i := 2) (oi := { dst := some 57, op := Op.load 38 (Operand.tmp 8), type := 38, pos := "database.go:76", after := #[], guard := none }) (v := ?_) rfl (by kernel_rfl) (by kernel_rfl) (by kernel_rfl) (by kernel_rfl) (by kernel_rfl) (fun _ _ _ h => h) (Or.inl ⟨by rfl, ?_⟩) hHeld ?_
          rotate_left 1
          · intro u hSu
            obtain ⟨b0, b2⟩ := row_cells hSu.out.1.b.s.t
            obtain ⟨d0, d1, d2, d3, d4⟩ := row5 hSu.out.1.b.a
            obtain ⟨e0, e1, e2, e3, e4⟩ := row5 hSu.out.2
            go_simp
            first | done | with_reducible rfl
          (try simp only [Act.put, List.setIfInBounds_toArray, List.set_cons_zero, List.set_cons_succ])
          refine anyU_take (i := 3) (oi := { dst := some 58, op := Op.load 38 (Operand.tmp 10), type := 38, pos := "database.go:76", after := #[], guard := none }) (v := ?_) rfl (by kernel_rfl) (by kernel_rfl) (by kernel_rfl) (by kernel_rfl) (by kernel_rfl) (fun _ _ _ h => h) (Or.inl ⟨by rfl, ?_⟩) hHeld ?_
          rotate_left 1
          · intro u hSu
            obtain ⟨b0, b2⟩ := row_cells hSu.out.1.b.s.t
            obtain ⟨d0, d1, d2, d3, d4⟩ := row5 hSu.out.1.b.a
            obtain ⟨e0, e1, e2, e3, e4⟩ := row5 hSu.out.2
            go_simp
            first | done | with_reducible rfl
          (try simp only [Act.put, List.setIfInBounds_toArray, List.set_cons_zero, List.set_cons_succ])
          refine anyU_ready (rs := [4]) (by kernel_rfl) (by simp) ?_
          refine EachU.cons (o := { dst := some 59, op := Op.call { callee := Callee.value (Operand.func 67), args := #[Operand.tmp 57, Operand.tmp 58], argTypes := #[38, 38] }, type := 71, pos := "database.go:76", after := #[{ on := 2, ground := Ground.data }, { on := 3, ground := Ground.data }], guard := none }) rfl (fun Kz hK => ?_) EachU.nil
          go_simp
          go_at_call 67
          refine (dbtw_any A x _ _ _ (hHeld.out.1.b.s.db.ok A HAM.out) (hHeld.out.1.b.s.db.ok x HXM.out)).mono ?_
          rintro e w5 ⟨rfl, hg⟩
          have hHn := Lib.hid (And.intro (hHeld.out.1.keep hg) (kept_row hHeld.out.2 hg (by simp)))
          clear hg
          refine hK.out _ _ (fun _ => hHn) (fun hH2 => ?_)
          clear hK Kz hHeld
          have hHeld := hH2 rfl
          clear hH2
          (try simp only [Act.put, List.setIfInBounds_toArray, List.set_cons_zero, List.set_cons_succ])
          refine anyU_ready (rs := [5]) (by kernel_rfl) (by simp) ?_
          refine EachU.cons (o := { dst := some 60, op := Op.buildSlice 57 1 #[(0, Operand.tmp 59)], type := 57, pos := "database.go:76", after := #[{ on := 4, ground := Ground.data }], guard := none }) rfl (fun Kz hK => ?_) EachU.nil
          go_simp
          have hHn := Lib.hid (And.intro (hHeld.out.1.keep (World.grownBy_alloc _ (.cells #[.int .i64 (btw A x).a, .int .i64 (btw A x).b, .int .i64 (btw A x).ca, .int .i64 (btw A x).cb, .int .i64 (btw A x).cp] 71) none)) (kept_row hHeld.out.2 (World.grownBy_alloc _ (.cells #[.int .i64 (btw A x).a, .int .i64 (btw A x).b, .int .i64 (btw A x).ca, .int .i64 (btw A x).cb, .int .i64 (btw A x).cp] 71) none) (by simp)))
          refine hK.out _ _ (fun _ => hHn) (fun hH2 => ?_)
          clear hK Kz hHeld
          have hHeld := hH2 rfl
          clear hH2
          (try simp only [Act.put, List.setIfInBounds_toArray, List.set_cons_zero, List.set_cons_succ])
          refine anyU_ready (rs := [6]) (by kernel_rfl) (by simp) ?_
          refine EachU.cons (o := { dst := some 61, op := Op.call { callee := Callee.builtin Builtin.append, args := #[Operand.tmp 56, Operand.tmp 60], argTypes := #[57, 57] }, type := 57, pos := "database.go:76", after := #[{ on := 1, ground := Ground.data }, { on := 5, ground := Ground.data }, { on := 4, ground := Ground.chain }], guard := none }) rfl (fun Kz hK => ?_) EachU.nil
          refine (astep_app lkC 5 40 (by decide) (fun _ => rfl) lkV_one 71 57 il _ Try.underlying57 hil hl0 hl1 hl2 rfl (by decide) (by rfl) _ _ (by rfl) (B + 1) vL2 L2 (by rfl) hHeld.out.1.b.s.oL (some ⟨_, 0, none⟩) 1 1 [btw A x] (by rfl) rfl (by simp) (fun _ => True) (rdf_one _ trivial (cells5V _ _ _ _ _ _ _) 1) (by omega) (by simp; omega) (by have := hHeld.out.1.b.s.sz; omega) ?_)
          intro p4 c4 w8 hown hg hat
          have HD5 := Lib.hid (hHeld.out.1.addL (L2 := L2 ++ [btw A x]) hown hg hat)
          obtain ⟨b0, b2⟩ := row_cells HD5.out.b.s.t
          have fB := frozen_of_row _ _ 1 _ _ HD5.out.b.s.t
          clear hown hg hat
          refine hK.out _ _ (fun h => by cases h) (fun _ => ?_)
          clear hK Kz
          (try simp only [Act.put, List.setIfInBounds_toArray, List.set_cons_zero, List.set_cons_succ])
          refine anyU_ready (rs := [7]) (by kernel_rfl) (by simp) ?_
          refine EachU.cons (o := { dst := some 62, op := Op.fieldAddr 59 (Operand.tmp 6) 1, type := 0, pos := "database.go:76", after := #[{ on := 0, ground := Ground.phase }, { on := 1, ground := Ground.phase }, { on := 2, ground := Ground.phase }, { on := 3, ground := Ground.phase }, { on := 4, ground := Ground.phase }, { on := 5, ground := Ground.phase }, { on := 6, ground := Ground.phase }], guard := none }) rfl (fun Kz hK => ?_) EachU.nil
          go_simp
          refine hK.out _ _ (fun h => by cases h) (fun _ => ?_)
          clear hK Kz
          (try simp only [Act.put, List.setIfInBounds_toArray, List.set_cons_zero, List.set_cons_succ])
          refine anyU_ready (rs := [8]) (by kernel_rfl) (by simp) ?_
          refine EachU.cons (o := { dst := none, op := Op.store 57 (Operand.tmp 62) (Operand.tmp 61), type := 0, pos := "database.go:76", after := #[{ on := 7, ground := Ground.data }, { on := 6, ground := Ground.data }, { on := 6, ground := Ground.chain }, { on := 0, ground := Ground.phase }, { on := 1, ground := Ground.phase }, { on := 2, ground := Ground.phase }, { on := 3, ground := Ground.phase }, { on := 4, ground := Ground.phase }, { on := 5, ground := Ground.phase }, { on := 6, ground := Ground.phase }], guard := none }) rfl (fun Kz hK => ?_) EachU.nil
          go_simp
          refine hK.out _ _ (fun h => by cases h) (fun _ => ?_)
          clear hK Kz
          (try simp only [Act.put, List.setIfInBounds_toArray, List.set_cons_zero, List.set_cons_succ])
          refine anyU_done (by kernel_rfl) ?_ _
          have HN2 := Lib.hid HD5.out.putL
          clear HD5 HD b0 b2 fB
          go_wp2_with fail
          exact ⟨⟨j + 1, _, L2 ++ [btw A x], by omega, congrArg _ (by omega), by rw [List.length_append]; simp; omega, HF, HN2⟩, by simp only [RowKit.intOf]; omega⟩
        · have HF : Hid (L ++ ((M.take (j + 1)).filter (ltA A)).map (btw A) = L2) := Lib.hid (by rw [HFS.out, if_neg hlr, List.append_nil, HL.out])
          have C2 := Lib.hid C1.out.1
          clear HFS HL C1
          go_wp2_with fail
          exact ⟨⟨j + 1, vL2, L2, by omega, congrArg _ (by omega), by omega, HF, C2⟩, by simp only [RowKit.intOf]; omega⟩
      · obtain rfl : j = M.length := by omega
        have hL9 := HL.out
        rw [List.take_length, ← HVL.out] at hL9
        have KN := Lib.hid C.out.b.s
        rw [hL9] at HN
        have hRl : (R ++ [toR A]).length = R.length + 1 := by rw [List.length_append]; rfl
        clear C HL hL9
        go_wp2_with fail
        exact ⟨⟨k + 1, .slice p5 (R.length + 1) c5, vL2, R ++ [toR A], L2, by omega, congrArg _ (by omega), by omega, by omega, HN, KN⟩, by simp only [RowKit.intOf]; omega⟩
  · obtain rfl : k = l.length := by omega
    have hI := HI.out
    rw [List.take_length] at hI
    have hI1 : vwR l S = R := hI.1
    have hI2 : vwL l S = L := hI.2
    rw [hI1, hI2] at HVW
    have hTK := K.out
    obtain ⟨pR, cR, rfl, n1, m1⟩ := own_shape K.out.oR
    obtain ⟨pL, cL, rfl, n2, m2⟩ := own_shape K.out.oL
    have hlo := K.out.lo
    have HTG : Hid (TgOk wr (fun b => B + 1 ≤ b ∧ b < wr.heap.size) ⟨R, L, pR, cR, pL, cL⟩) := Lib.hid ⟨rdf_of_own2 K.out.oR, rdf_of_own2 K.out.oL, ⟨n1, m1⟩, ⟨n2, m2⟩⟩
    clear hI hI1 hI2 hTK n1 m1 n2 m2 HI
    obtain ⟨b0, b2⟩ := row_cells K.out.t
    go_wp2_with fail
    refine (tcheck_any ⟨R, L, pR, cR, pL, cL⟩ _ wr HTG.out).mono ?_
    rintro e w5 ⟨rfl, hg⟩
    have HT5 := Lib.hid (HTG.out.keep hg)
    have K5 := Lib.hid (K.out.keep hg)
    clear hg K HTG b0 b2
    simp only
    obtain ⟨z, hz⟩ : ∃ z, chk R L = z := ⟨_, rfl⟩
    rw [hz] at HVW ⊢
    clear hz
    obtain ⟨b0, b2⟩ := row_cells K5.out.t
    have z0 := cell_of_row _ _ 0 _ _ _ K5.out.z
    have z1 := cell_of_row _ _ 1 _ _ _ K5.out.z
    have f0 := frozen_of_row _ _ 0 _ _ K5.out.z
    have f1 := frozen_of_row _ _ 1 _ _ K5.out.z
    by_cases hz0 : z = 0
    · have HV : Hid ((R, L) = viewV l r) := Lib.hid (by rw [HVW.out, if_pos hz0])
      obtain ⟨t1, t2⟩ := store2c (.slice pR R.length cR) (.slice pL L.length cL) K5.out.z
      have HT := Lib.hid (And.intro t1 (And.intro (grown_new K5.out.gr t2 (by omega)) (HT5.out.grown t2 (fun b hb e => by have := Option.some.inj e; omega))))
      clear t1 t2 K5 HT5
      subst hz0
      go_wp2_with fail
      refine bodyPost_ret (res_topoV rfl _ _ (w.heap.size + 1) _ _ rfl HT.out.1) rfl ?_
      exact ⟨⟨R, L, pR, cR, pL, cL⟩, rfl, HV.out, HT.out.2.2.mono (fun b hb => by omega), HT.out.2.1⟩
    · have HV : Hid (viewV l r = ([], [])) := Lib.hid (by rw [HVW.out, if_neg hz0])
      obtain ⟨t1, t2⟩ := store2c (.slice none 0 0) (.slice none 0 0) K5.out.z
      have HT := Lib.hid (And.intro t1 (grown_new K5.out.gr t2 (by omega)))
      clear t1 t2 K5 HT5
      go_wp2_with fail
      refine bodyPost_ret (res_topoV rfl _ _ (w.heap.size + 1) _ _ rfl HT.out.1) rfl ?_
      exact vw_no HV.out HT.out.2
end Go.Proofs.Ytnpkihioklpnmaa

/- Parts of the proof, packed: DbTap, DbPuM, DbRWi, AdSq, AdRSm, AdRVa, DbRef, DbRk, DbRf, AdNwM, IoOwnR, IoOwnA, AdROw, AdREn, AdRNw, DbRPu, DbMrg, DbRMg. -/
import Derived.Test.YtnpkihioklpnmaaSt5
import Derived.Test.YtnpkihioklpnmaaSt8
import Derived.Test.YtnpkihioklpnmaaSt11
import Derived.Test.YtnpkihioklpnmaaSt3
import Derived.Deep.CutBlock
import Derived.Test.YtnpkihioklpnmaaSt10
import Derived.Test.YtnpkihioklpnmaaSt7
import Derived.BigQuiet
import Derived.Test.YtnpkihioklpnmaaSt4
import Derived.Laws.StructEq
import Derived.Sort.Walk0
import Derived.Deep.CutRange
import Derived.Laws.Cover1
/- The tape's Database. -/
namespace Go.Proofs.Ytnpkihioklpnmaa
open Go.RowKit Bs
set_option maxRecDepth 100000 in
theorem db_size1 : (Try.prog.info? 25).map (·.size) = some 1 := by kernel_rfl
set_option maxRecDepth 100000 in
theorem res_db1 {fn : Func} {p : Tmp} (h : fn.results = #[.cell p 25]) (tmps : Array Value) (w : World) (g : Nat) (x : Value) (hp : tmps.getD p undef = .pointer (some ⟨g, 0, none⟩)) (hg : w.heap[g]? = some (.cells #[x] 25 (0, 0))) :
    (results fn tmps).run Try.prog w = .ok (.agg #[x]) w :=
  results_cell_row h tmps w g _ _ _ _ hp hg Try.underlying25 rfl db_size1
/-- Where lists of a database's adverts lie while the database grows. -/
def qD (W : World) (v : Value) (w : World) (b : Nat) : Prop := W.heap.size + 2 ≤ b ∧ b < w.heap.size ∧ v.ownBlock ≠ some b
set_option maxRecDepth 100000 in
theorem qD.less {W w w1 : World} {v : Value} (hs : w.heap.size ≤ w1.heap.size) {b : Nat} (h : qD W v w b) : qD W v w1 b := ⟨h.1, Nat.lt_of_lt_of_le h.2.1 hs, h.2.2⟩
/-- While the tape makes a database: the boxes, the row, the adverts. -/
structure DT (a : Nat) (W : World) (u v : Value) (l : List Ad) (w : World) : Prop where
  zb : w.heap[W.heap.size]? = some (.cells #[.slice none 0 0] 25 (0, 0))
  db : w.heap[W.heap.size + 1]? = some (.cells #[u] 25 (0, 0))
  own : w.ownsRow (W.heap.size + 2) 38 5 v l.length (l.flatMap adL)
  ok : ∀ A ∈ l, AdOk w (qD W v w) A
  nl : ∀ A ∈ l, AdNl A
  st : St a W w
/-- And an advert that is not in it yet. -/
structure DP (a : Nat) (W : World) (u v : Value) (l : List Ad) (A : Ad) (w : World) : Prop where
  dt : DT a W u v l w
  ok : AdOk w (qD W v w) A
  nl : AdNl A
section
variable {a : Nat} {W w w1 : World} {u v v' : Value} {l : List Ad} {A : Ad}
set_option maxRecDepth 100000 in
theorem DT.sz (h : DT a W u v l w) : W.heap.size + 2 ≤ w.heap.size := World.lt_of_row' h.db
set_option maxRecDepth 100000 in
theorem DT.step {r : Option Nat} (h : DT a W u v l w) (g : w.grownBy w1 r) (hr : ∀ b, r = some b → b < W.heap.size) (hs : St a W w1) : DT a W u v l w1 := by
  have hne : ∀ b, W.heap.size ≤ b → some b ≠ r := fun b hb e => by have := hr b e.symm; omega
  refine ⟨kept_row h.zb g (hne _ (Nat.le_refl _)), kept_row h.db g (hne _ (by omega)), h.own.kept g ?_, fun B hB => ((h.ok B hB).grown g (fun b hb => hne _ (by have := hb.1; omega))).mono (fun b hb => hb.less g.size), h.nl, hs⟩
  cases hv : v.ownBlock with
  | none => exact .inl rfl
  | some k => exact .inr (fun e => hne k (by have := (h.own.lt k hv).1; omega) e)
set_option maxRecDepth 100000 in
theorem DT.keep (h : DT a W u v l w) (g : w.grownBy w1 none) : DT a W u v l w1 := h.step g (fun _ e => by cases e) (h.st.none_ g)
set_option maxRecDepth 100000 in
theorem DT.tape (h : DT a W u v l w) (ha : a < W.heap.size) (hs : St a w w1) : DT a W u v l w1 := h.step hs.1 (fun b e => by have := Option.some.inj e; omega) (h.st.trans hs)
set_option maxRecDepth 100000 in
theorem DT.pend (h : DT a W u v l w) (ha : a < W.heap.size) (hs : St a w w1) (hok : AdOk w1 (w.heap.size ≤ ·) A) (hn : AdNl A) : DP a W u v l A w1 :=
  ⟨h.tape ha hs, hok.and.mono (fun b hb => ⟨by have := h.sz; omega, hb.2, fun e => by have := (h.own.lt b e).2; omega⟩), hn⟩
set_option maxRecDepth 100000 in
theorem DP.keep (h : DP a W u v l A w) (g : w.grownBy w1 none) : DP a W u v l A w1 := ⟨h.dt.keep g, (h.ok.keep g).mono (fun _ hb => hb.less g.size), h.nl⟩
set_option maxRecDepth 100000 in
theorem DP.app (h : DP a W u v l A w) (ha : a < W.heap.size) (hown : w1.ownsRow (W.heap.size + 2) 38 5 v' (l ++ [A]).length ((l ++ [A]).flatMap adL)) (hg : w.grownBy w1 v.ownBlock) (hat : v'.ownBlock = v.ownBlock ∨ v'.ownBlock = some w.heap.size) : DT a W u v' (l ++ [A]) w1 := by
  have hne : ∀ b, b < W.heap.size + 2 → some b ≠ v.ownBlock := fun b hb e => by have := (h.dt.own.lt b e.symm).1; omega
  have hq : ∀ b, qD W v w b → qD W v' w1 b := fun b hb => ⟨hb.1, Nat.lt_of_lt_of_le hb.2.1 hg.size, fun e => by
    rcases hat with h1 | h1
    · exact hb.2.2 (h1.symm.trans e)
    · have := Option.some.inj (h1.symm.trans e); have := hb.2.1; omega⟩
  refine ⟨kept_row h.dt.zb hg (hne _ (by omega)), kept_row h.dt.db hg (hne _ (by omega)), hown, fun B hB => ?_, fun B hB => ?_, ?_⟩
  · rcases List.mem_append.1 hB with hB | hB
    · exact ((h.dt.ok B hB).grown hg (fun b hb e => hb.2.2 e.symm)).mono hq
    · rw [List.mem_singleton] at hB; subst hB; exact (h.ok.grown hg (fun b hb e => hb.2.2 e.symm)).mono hq
  · rcases List.mem_append.1 hB with hB | hB
    · exact h.dt.nl B hB
    · rw [List.mem_singleton] at hB; subst hB; exact h.nl
  · cases hv : v.ownBlock with
    | none => rw [hv] at hg; exact h.dt.st.none_ hg
    | some b => rw [hv] at hg; exact h.dt.st.newA hg (by have := (h.dt.own.lt b hv).1; omega) ha
set_option maxRecDepth 100000 in
theorem DT.put (h : DT a W u v l w) (ha : a < W.heap.size) : DT a W v v l (w.setCell ⟨W.heap.size + 1, 0, none⟩ v) := by
  have g := grown_setCell w ⟨W.heap.size + 1, 0, none⟩ v
  refine ⟨kept_row h.zb g (fun e => by have : W.heap.size = W.heap.size + 1 := Option.some.inj e; omega), ?_, own_otherV h.own g (Nat.lt_succ_self _), fun B hB => ((h.ok B hB).grown g (fun b hb e => by have : b = W.heap.size + 1 := Option.some.inj e; have := hb.1; omega)).mono (fun b hb => hb.less g.size), h.nl, h.st.newA g (show W.heap.size ≤ W.heap.size + 1 by omega) ha⟩
  have h1 := heap_setCell_same w (W.heap.size + 1) 0 _ _ v h.db
  rw [h1]; rfl
set_option maxRecDepth 100000 in
theorem DT.e0 (h : DT a W u v l w) : w.cell? ⟨W.heap.size + 1, 0, none⟩ = some u := cell_of_row _ _ _ _ _ _ h.db
end
/-- Adverts of routers below k, valid, ascending. -/
structure DV (k : Int) (l : List Ad) : Prop where
  v : ∀ A ∈ l, vAd A = true ∧ A.r < k
  nb : ∀ A ∈ l, ∀ x ∈ A.L, x.a ≤ 6
  p : l.Pairwise (fun A B => A.r < B.r)
set_option maxRecDepth 100000 in
theorem DV.nil (k : Int) : DV k [] := ⟨(fun A h => by cases h), (fun A h => by cases h), List.Pairwise.nil⟩
set_option maxRecDepth 100000 in
theorem DV.up {k : Int} {l : List Ad} (h : DV k l) : DV (k + 1) l := ⟨fun A hA => ⟨(h.v A hA).1, by have := (h.v A hA).2; omega⟩, h.nb, h.p⟩
set_option maxRecDepth 100000 in
theorem DV.add {k : Int} {l : List Ad} {A : Ad} (h : DV k l) (hv : vAd A = true) (hr : A.r = k) (hn : ∀ x ∈ A.L, x.a ≤ 6) : DV (k + 1) (l ++ [A]) := by
  refine ⟨fun B hB => ?_, fun B hB => ?_, List.pairwise_append.2 ⟨h.p, List.pairwise_singleton _ _, fun B hB C hC => ?_⟩⟩
  · rcases List.mem_append.1 hB with hB | hB
    · exact ⟨(h.v B hB).1, by have := (h.v B hB).2; omega⟩
    · rw [List.mem_singleton] at hB; subst hB; exact ⟨hv, by omega⟩
  · rcases List.mem_append.1 hB with hB | hB
    · exact h.nb B hB
    · rw [List.mem_singleton] at hB; subst hB; exact hn
  · rw [List.mem_singleton] at hC; subst hC; have := (h.v B hB).2; omega
/-- Lists of adverts are short. -/
def DL (l : List Ad) : Prop := ∀ A ∈ l, A.L.length ≤ 40 ∧ A.C.length ≤ 10
set_option maxRecDepth 100000 in
theorem DL.add {l : List Ad} {A : Ad} (h : DL l) (h1 : A.L.length ≤ 40) (h2 : A.C.length ≤ 10) : DL (l ++ [A]) := fun B hB => by
  rcases List.mem_append.1 hB with hB | hB
  · exact h B hB
  · rw [List.mem_singleton] at hB; subst hB; exact ⟨h1, h2⟩
set_option maxRecDepth 100000 in
theorem d1_set {w : World} {g : Nat} {t : TypeId} {x : Value} (y : Value) (h : w.heap[g]? = some (.cells #[x] t (0, 0))) : (w.setCell ⟨g, 0, none⟩ y).heap[g]? = some (.cells #[y] t (0, 0)) := by
  have h1 := heap_setCell_same w g 0 _ _ y h
  rw [h1]; rfl
def TDPost (a : Nat) (n : Int) (w : World) (e : Ending) (w' : World) : Prop :=
  ∃ (l : List Ad) (p : Option Addr) (c : Nat), e = .returned (.agg #[.slice p l.length c]) ∧ l.length ≤ 7 ∧ DL l ∧ (¬ 0 < n → DV 7 l) ∧ RdA w' (w.heap.size ≤ ·) (.slice p l.length c) l ∧ (l.length ≤ c ∧ c ≤ 9223372036854775807) ∧ (p = none → c = 0) ∧ St a w w'
set_option maxRecDepth 100000 in
theorem dt_start {w : World} {a : Nat} (hT : Tp w a) : DT a w (.slice none 0 0) (.slice none 0 0) [] ((w.alloc (.cells #[.slice none 0 0] 25)).alloc (.cells #[.slice none 0 0] 25)) := by
  obtain ⟨k1, k2, k3, k4⟩ := two_boxes w #[.slice none 0 0] #[.slice none 0 0] 25 25
  exact ⟨k1, k2, World.ownsRow_nil _ _ _ _, (fun A h => by cases h), (fun A h => by cases h), ⟨grown_none k3 _, hT.keep k3⟩⟩
set_option maxRecDepth 100000 in
theorem dt_post {a : Nat} {n : Int} {w w1 w2 : World} {u : Value} {l : List Ad} {p : Option Addr} {c m : Nat} (h : DT a w u (.slice p m c) l w1) (hm : m = l.length) (ha : a < w.heap.size) (g : w1.grownBy w2 (some w.heap.size)) (h7 : l.length ≤ 7) (hL : DL l) (hV : ¬ 0 < n → DV 7 l) : TDPost a n w (.returned (.agg #[.slice p m c])) w2 := by
  subst hm
  obtain ⟨p', c', e, n1, m1⟩ := own_shape h.own
  injection e with e1 e2 e3
  subst e1 e3
  have hne : ∀ b, w.heap.size + 2 ≤ b → some b ≠ some w.heap.size := fun b hb e => by have := Option.some.inj e; omega
  exact ⟨l, p, c, rfl, h7, hL, hV, ⟨((rdf_of_own h.own).grown g hne).mono (fun b hb => by omega), fun A hA => ((h.ok A hA).grown g (fun _ hb => hne _ hb.1)).mono (fun b hb => by have := hb.1; omega), h.nl⟩, ⟨n1, m1⟩, own_nilc h.own, h.st.newA g (Nat.le_refl _) ha⟩
set_option maxRecDepth 100000 in
set_option maxHeartbeats 12800000 in
theorem tdb_any (a : Nat) (n : Int) (hn : I64 n) (w : World) (hT : Tp w a) :
    Calls Try.prog 12 #[.pointer (some ⟨a, 0, none⟩), .int .i64 n] w fun e w' => TDPost a n w e w' := by
  obtain ⟨ia, hia, hz0, hz1, hz2⟩ := info_parts info_ad5
  have ha := hT.lt
  have H0 := Lib.hid (dt_start hT)
  clear hT
  go_enter Try.func12, Try.ntmps12
  go_upto_region 2 with fail
  generalize (w.alloc _).alloc _ = wa at *
  go_wp2_with fail
  go_loopw [6] (fun x wr => ∃ (k : Nat) (v : Value) (l : List Ad), 1 ≤ k ∧ k ≤ 7 ∧ x = .int .i64 (k : Int) ∧ l.length + 1 ≤ k ∧ Hid (DL l ∧ DV (k : Int) l) ∧ Hid (DT a w v v l wr)) (fun x _ => 7 - (RowKit.intOf x).toNat)
  case atStart => exact ⟨1, _, [], Nat.le_refl _, by omega, rfl, by simp, Lib.hid ⟨(fun A h => by cases h), DV.nil _⟩, H0⟩
  case round =>
  obtain ⟨k, v, l, hk1, hk7, rfl, hlk, HV, K⟩ := hrel
  clear H0
  by_cases hlt : k ≤ 6
  · have hltI : (k : Int) ≤ 6 := by omega
    go_wp2_with fail
    refine (next_any a 4 (by unfold I64; omega) wr K.out.st.2).mono ?_
    rintro e w4 ⟨x, rfl, hx, hs⟩
    have K1 := Lib.hid (K.out.tape ha hs)
    clear hs K
    by_cases hx0 : 0 < x
    · go_upto_region 6 with fail
      clear hx
      have HD := Lib.hid (K1.out.keep (grown_drew (grown_refl w4 none)))
      clear K1
      refine region_until (S := fun w' => Hid (w'.heap[w.heap.size + 1]? = some (.cells #[v] 25 (0, 0)))) (fun j => j == 6 || j == 7 || j == 8) (by kernel_rfl) (Lib.hid HD.out.db) (fun hHeld => ?_)
      refine anyU_take (i := 0) (oi := { dst := some 14, op := Op.fieldAddr 25 (Operand.tmp 5) 0, type := 0, pos := "make.go:558", after := #[], guard := none }) (v := ?_) rfl (by kernel_rfl) (by kernel_rfl) (by kernel_rfl) (by kernel_rfl) (by kernel_rfl) (fun _ _ _ h => h) (Or.inl ⟨by rfl, ?_⟩) hHeld ?_
      rotate_left 1
      · intro u hSu
        have q0 := (cell_of_row _ _ 0 _ _ _ hSu.out)
        go_simp
        first | done | with_reducible rfl
      (try simp only [Act.put, List.setIfInBounds_toArray, List.set_cons_zero, List.set_cons_succ])
      refine anyU_take (i := 1) (oi := { dst := some 15, op := Op.load 23 (Operand.tmp 14), type := 23, pos := "make.go:558", after := #[{ on := 0, ground := Ground.data }], guard := none }) (v := ?_) rfl (by kernel_rfl) (by kernel_rfl) (by kernel_rfl) (by kernel_rfl) (by kernel_rfl) (fun _ _ _ h => h) (Or.inl ⟨by rfl, ?_⟩) hHeld ?_
      rotate_left 1
      · intro u hSu
        have q0 := (cell_of_row _ _ 0 _ _ _ hSu.out)
        go_simp
        first | done | with_reducible rfl
      (try simp only [Act.put, List.setIfInBounds_toArray, List.set_cons_zero, List.set_cons_succ])
      refine anyU_take (i := 2) (oi := { dst := some 16, op := Op.move (Operand.tmp 0), type := 26, pos := "make.go:558", after := #[], guard := none }) (v := ?_) rfl (by kernel_rfl) (by kernel_rfl) (by kernel_rfl) (by kernel_rfl) (by kernel_rfl) (fun _ _ _ h => h) (Or.inl ⟨by rfl, ?_⟩) hHeld ?_
      rotate_left 1
      · intro u hSu
        have q0 := (cell_of_row _ _ 0 _ _ _ hSu.out)
        go_simp
        first | done | with_reducible rfl
      (try simp only [Act.put, List.setIfInBounds_toArray, List.set_cons_zero, List.set_cons_succ])
      refine anyU_take (i := 3) (oi := { dst := some 17, op := Op.move (Operand.tmp 6), type := 3, pos := "make.go:558", after := #[], guard := none }) (v := ?_) rfl (by kernel_rfl) (by kernel_rfl) (by kernel_rfl) (by kernel_rfl) (by kernel_rfl) (fun _ _ _ h => h) (Or.inl ⟨by rfl, ?_⟩) hHeld ?_
      rotate_left 1
      · intro u hSu
        have q0 := (cell_of_row _ _ 0 _ _ _ hSu.out)
        go_simp
        first | done | with_reducible rfl
      (try simp only [Act.put, List.setIfInBounds_toArray, List.set_cons_zero, List.set_cons_succ])
      refine anyU_ready (rs := [4]) (by kernel_rfl) (by simp) ?_
      refine EachU.cons (o := { dst := some 18, op := Op.call { callee := Callee.value (Operand.func 23), args := #[Operand.tmp 16, Operand.tmp 17, Operand.const (Value.int IntKind.i64 0)], argTypes := #[26, 3, 3] }, type := 38, pos := "make.go:558", after := #[{ on := 2, ground := Ground.data }, { on := 3, ground := Ground.data }], guard := none }) rfl (fun Kz hK => ?_) EachU.nil
      go_simp
      go_at_call 23
      refine (adv3_any a (k : Int) 0 (by unfold I64; omega) (by unfold I64; omega) _ HD.out.st.2).mono ?_
      rintro e w5 ⟨A, rfl, hta, hok, hst, hnl⟩
      rw [show A.val = .agg #[.int .i64 A.r, .int .i64 A.q, .bool A.cp, .slice A.pL A.L.length A.cL, .slice A.pC A.C.length A.cC] from rfl]
      have HP := Lib.hid (HD.out.pend ha hst hok hnl)
      have HTA := Lib.hid hta
      clear hta hok hst hnl HD
      refine hK.out _ _ (fun _ => Lib.hid HP.out.dt.db) (fun hH2 => ?_)
      clear hK Kz hHeld
      have hHeld := hH2 rfl
      clear hH2
      (try simp only [Act.put, List.setIfInBounds_toArray, List.set_cons_zero, List.set_cons_succ])
      refine anyU_ready (rs := [5]) (by kernel_rfl) (by simp) ?_
      refine EachU.cons (o := { dst := some 19, op := Op.buildSlice 23 1 #[(0, Operand.tmp 18)], type := 23, pos := "make.go:558", after := #[{ on := 4, ground := Ground.data }], guard := none }) rfl (fun Kz hK => ?_) EachU.nil
      go_simp
      have HQ := Lib.hid (HP.out.keep (World.grownBy_alloc _ (.cells #[.int .i64 A.r, .int .i64 A.q, .bool A.cp, .slice A.pL A.L.length A.cL, .slice A.pC A.C.length A.cC] 38) none))
      clear HP
      refine hK.out _ _ (fun _ => Lib.hid HQ.out.dt.db) (fun hH2 => ?_)
      clear hK Kz hHeld
      have hHeld := hH2 rfl
      clear hH2
      (try simp only [Act.put, List.setIfInBounds_toArray, List.set_cons_zero, List.set_cons_succ])
      refine anyU_ready (rs := [6]) (by kernel_rfl) (by simp) ?_
      refine EachU.cons (o := { dst := some 20, op := Op.call { callee := Callee.builtin Builtin.append, args := #[Operand.tmp 15, Operand.tmp 19], argTypes := #[23, 23] }, type := 23, pos := "make.go:558", after := #[{ on := 1, ground := Ground.data }, { on := 5, ground := Ground.data }, { on := 4, ground := Ground.chain }], guard := none }) rfl (fun Kz hK => ?_) EachU.nil
      refine (astep_app adL 5 72 (by decide) adL_len ad_one 38 23 ia _ Try.underlying23 hia hz0 hz1 hz2 rfl (by decide) (by rfl) _ _ (by rfl) (w.heap.size + 2) v l (by rfl) HQ.out.dt.own (some ⟨_, 0, none⟩) 1 1 [A] (by rfl) rfl (by simp) (fun _ => True) (rdf_one _ trivial (cells5V _ _ _ _ _ _ _) 1) (by omega) (by simp; omega) (by have := HQ.out.dt.sz; omega) ?_)
      intro p4 c4 w8 hown hg hat
      have HD5 := Lib.hid (HQ.out.app ha hown hg hat)
      have b0 := HD5.out.e0
      have fB := frozen_of_row _ _ 0 _ _ HD5.out.db
      clear hown hg hat HQ
      refine hK.out _ _ (fun h => by cases h) (fun _ => ?_)
      clear hK Kz
      (try simp only [Act.put, List.setIfInBounds_toArray, List.set_cons_zero, List.set_cons_succ])
      refine anyU_ready (rs := [7]) (by kernel_rfl) (by simp) ?_
      refine EachU.cons (o := { dst := some 21, op := Op.fieldAddr 25 (Operand.tmp 5) 0, type := 0, pos := "make.go:558", after := #[{ on := 0, ground := Ground.phase }, { on := 1, ground := Ground.phase }, { on := 2, ground := Ground.phase }, { on := 3, ground := Ground.phase }, { on := 4, ground := Ground.phase }, { on := 5, ground := Ground.phase }, { on := 6, ground := Ground.phase }], guard := none }) rfl (fun Kz hK => ?_) EachU.nil
      go_simp
      refine hK.out _ _ (fun h => by cases h) (fun _ => ?_)
      clear hK Kz
      (try simp only [Act.put, List.setIfInBounds_toArray, List.set_cons_zero, List.set_cons_succ])
      refine anyU_ready (rs := [8]) (by kernel_rfl) (by simp) ?_
      refine EachU.cons (o := { dst := none, op := Op.store 23 (Operand.tmp 21) (Operand.tmp 20), type := 0, pos := "make.go:558", after := #[{ on := 7, ground := Ground.data }, { on := 6, ground := Ground.data }, { on := 6, ground := Ground.chain }, { on := 0, ground := Ground.phase }, { on := 1, ground := Ground.phase }, { on := 2, ground := Ground.phase }, { on := 3, ground := Ground.phase }, { on := 4, ground := Ground.phase }, { on := 5, ground := Ground.phase }, { on := 6, ground := Ground.phase }], guard := none }) rfl (fun Kz hK => ?_) EachU.nil
      go_simp
      refine hK.out _ _ (fun h => by cases h) (fun _ => ?_)
      clear hK Kz
      (try simp only [Act.put, List.setIfInBounds_toArray, List.set_cons_zero, List.set_cons_succ])
      refine anyU_done (by kernel_rfl) ?_ _
      have HN := Lib.hid (HD5.out.put ha)
      have HVA := HTA.out.valid (by omega) ⟨by omega, by omega⟩
      have HV2 : Hid (DL (l ++ [A]) ∧ DV ((k : Int) + 1) (l ++ [A])) := Lib.hid ⟨HV.out.1.add HTA.out.ll HTA.out.cl, HV.out.2.add HVA.1 HVA.2 (HTA.out.nb (by omega))⟩
      rw [show (k : Int) + 1 = ((k + 1 : Nat) : Int) by omega] at HV2
      clear HD5 hHeld b0 fB HVA
      go_wp2_with fail
      exact ⟨⟨k + 1, _, l ++ [A], by omega, by omega, congrArg _ (by omega), by rw [List.length_append]; simp; omega, HV2, HN⟩, by simp only [RowKit.intOf]; omega⟩
    · have HV2 : Hid (DL l ∧ DV ((k : Int) + 1) l) := Lib.hid ⟨HV.out.1, HV.out.2.up⟩
      rw [show (k : Int) + 1 = ((k + 1 : Nat) : Int) by omega] at HV2
      clear hx
      go_wp2_with fail
      exact ⟨⟨k + 1, v, l, by omega, by omega, congrArg _ (by omega), by omega, HV2, K1⟩, by simp only [RowKit.intOf]; omega⟩
  · obtain rfl : k = 7 := by omega
    have hlI : ¬ ((7 : Nat) : Int) ≤ 6 := by omega
    have hl6 : l.length ≤ 6 := by omega
    by_cases hn0 : 0 < n
    · go_wp2_with fail
      refine (one_any a n hn wr K.out.st.2).mono ?_
      rintro e w4 ⟨b, rfl, hs⟩
      have K1 := Lib.hid (K.out.tape ha hs)
      clear hs K
      cases b with
      | false =>
        obtain ⟨p9, c9, rfl, -, -⟩ := own_shape K1.out.own
        have hd0 := K1.out.e0
        have hz0' := cell_of_row _ _ 0 _ _ _ K1.out.zb
        have f0 := frozen_of_row _ _ 0 _ _ K1.out.zb
        have g9 := fun wz : World => grown_setCell wz ⟨w.heap.size, 0, none⟩ (.slice p9 (l).length c9)
        have HP9 := Lib.hid (dt_post (n := n) K1.out (by first | rfl | (simp; done)) ha (g9 _) (by omega) HV.out.1 (fun _ => HV.out.2))
        have HT9 := Lib.hid (d1_set (.slice p9 (l).length c9) K1.out.zb)
        clear K1 g9
        go_wp2_with fail
        refine bodyPost_ret (res_db1 rfl _ _ w.heap.size _ rfl HT9.out) rfl ?_
        exact HP9.out
      | true =>
        go_upto_region 8 with fail
        have HD := Lib.hid (K1.out.keep (grown_drew (grown_refl w4 none)))
        clear K1
        refine region_until (S := fun w' => Hid (w'.heap[w.heap.size + 1]? = some (.cells #[v] 25 (0, 0)))) (fun j => j == 8 || j == 9 || j == 10) (by kernel_rfl) (Lib.hid HD.out.db) (fun hHeld => ?_)
        refine anyU_take (i := 0) (oi := { dst := some 29, op := Op.fieldAddr 25 (Operand.tmp 5) 0, type := 0, pos := "make.go:562", after := #[], guard := none }) (v := ?_) rfl (by kernel_rfl) (by kernel_rfl) (by kernel_rfl) (by kernel_rfl) (by kernel_rfl) (fun _ _ _ h => h) (Or.inl ⟨by rfl, ?_⟩) hHeld ?_
        rotate_left 1
        · intro u hSu
          have q0 := (cell_of_row _ _ 0 _ _ _ hSu.out)
          go_simp
          first | done | with_reducible rfl
        (try simp only [Act.put, List.setIfInBounds_toArray, List.set_cons_zero, List.set_cons_succ])
        refine anyU_take (i := 1) (oi := { dst := some 30, op := Op.load 23 (Operand.tmp 29), type := 23, pos := "make.go:562", after := #[{ on := 0, ground := Ground.data }], guard := none }) (v := ?_) rfl (by kernel_rfl) (by kernel_rfl) (by kernel_rfl) (by kernel_rfl) (by kernel_rfl) (fun _ _ _ h => h) (Or.inl ⟨by rfl, ?_⟩) hHeld ?_
        rotate_left 1
        · intro u hSu
          have q0 := (cell_of_row _ _ 0 _ _ _ hSu.out)
          go_simp
          first | done | with_reducible rfl
        (try simp only [Act.put, List.setIfInBounds_toArray, List.set_cons_zero, List.set_cons_succ])
        refine anyU_take (i := 2) (oi := { dst := some 31, op := Op.move (Operand.tmp 0), type := 26, pos := "make.go:562", after := #[], guard := none }) (v := ?_) rfl (by kernel_rfl) (by kernel_rfl) (by kernel_rfl) (by kernel_rfl) (by kernel_rfl) (fun _ _ _ h => h) (Or.inl ⟨by rfl, ?_⟩) hHeld ?_
        rotate_left 1
        · intro u hSu
          have q0 := (cell_of_row _ _ 0 _ _ _ hSu.out)
          go_simp
          first | done | with_reducible rfl
        (try simp only [Act.put, List.setIfInBounds_toArray, List.set_cons_zero, List.set_cons_succ])
        refine anyU_take (i := 3) (oi := { dst := some 32, op := Op.move (Operand.tmp 0), type := 26, pos := "make.go:562", after := #[], guard := none }) (v := ?_) rfl (by kernel_rfl) (by kernel_rfl) (by kernel_rfl) (by kernel_rfl) (by kernel_rfl) (fun _ _ _ h => h) (Or.inl ⟨by rfl, ?_⟩) hHeld ?_
        rotate_left 1
        · intro u hSu
          have q0 := (cell_of_row _ _ 0 _ _ _ hSu.out)
          go_simp
          first | done | with_reducible rfl
        (try simp only [Act.put, List.setIfInBounds_toArray, List.set_cons_zero, List.set_cons_succ])
        refine anyU_ready (rs := [4]) (by kernel_rfl) (by simp) ?_
        refine EachU.cons (o := { dst := some 33, op := Op.buildSlice 22 3 #[(0, Operand.const (Value.int IntKind.i64 1)), (1, Operand.const (Value.int IntKind.i64 6)), (2, Operand.const (Value.int IntKind.i64 7))], type := 22, pos := "make.go:562", after := #[], guard := none }) rfl (fun Kz hK => ?_) EachU.nil
        go_simp
        have HM0 := among_list I64 _ a [1, 6, 7] #[.int .i64 1, .int .i64 6, .int .i64 7] 3 HD.out.st.2.lt rfl (by intro x hx; simp only [List.mem_cons, List.not_mem_nil, or_false] at hx; unfold I64; omega)
        have HM : Hid (Among I64 _ a _ 0 3) := Lib.hid HM0
        clear HM0
        have HDn := Lib.hid (HD.out.keep (World.grownBy_alloc _ (.cells #[.int .i64 1, .int .i64 6, .int .i64 7] 3) none))
        clear HD
        have HD := HDn
        clear HDn
        refine hK.out _ _ (fun _ => Lib.hid HD.out.db) (fun hH2 => ?_)
        clear hK Kz hHeld
        have hHeld := hH2 rfl
        clear hH2
        (try simp only [Act.put, List.setIfInBounds_toArray, List.set_cons_zero, List.set_cons_succ])
        refine anyU_ready (rs := [5]) (by kernel_rfl) (by simp) ?_
        refine EachU.cons (o := { dst := some 34, op := Op.call { callee := Callee.value (Operand.func 46), args := #[Operand.tmp 32, Operand.tmp 33], argTypes := #[26, 22] }, type := 3, pos := "make.go:562", after := #[{ on := 3, ground := Ground.data }, { on := 4, ground := Ground.data }], guard := none }) rfl (fun Kz hK => ?_) EachU.nil
        go_simp
        go_at_call 46
        refine (pick_any I64 a _ 0 3 3 (by omega) (by omega) _ HD.out.st.2 HM.out).mono ?_
        rintro e w5 ⟨R, rfl, hR, hs⟩
        have HR := Lib.hid hR
        have HDn := Lib.hid (HD.out.tape ha hs)
        clear hs hR HD HM
        have HD := HDn
        clear HDn
        refine hK.out _ _ (fun _ => Lib.hid HD.out.db) (fun hH2 => ?_)
        clear hK Kz hHeld
        have hHeld := hH2 rfl
        clear hH2
        (try simp only [Act.put, List.setIfInBounds_toArray, List.set_cons_zero, List.set_cons_succ])
        refine anyU_ready (rs := [6]) (by kernel_rfl) (by simp) ?_
        refine EachU.cons (o := { dst := some 35, op := Op.call { callee := Callee.value (Operand.func 23), args := #[Operand.tmp 31, Operand.tmp 34, Operand.const (Value.int IntKind.i64 2)], argTypes := #[26, 3, 3] }, type := 38, pos := "make.go:562", after := #[{ on := 2, ground := Ground.data }, { on := 5, ground := Ground.data }, { on := 5, ground := Ground.chain }], guard := none }) rfl (fun Kz hK => ?_) EachU.nil
        go_simp
        go_at_call 23
        refine (adv3_any a R 2 HR.out (by unfold I64; omega) _ HD.out.st.2).mono ?_
        rintro e w5 ⟨A, rfl, hta, hok, hst, hnl⟩
        rw [show A.val = .agg #[.int .i64 A.r, .int .i64 A.q, .bool A.cp, .slice A.pL A.L.length A.cL, .slice A.pC A.C.length A.cC] from rfl]
        have HP := Lib.hid (HD.out.pend ha hst hok hnl)
        have HTA := Lib.hid hta
        clear hta hok hst hnl HD
        refine hK.out _ _ (fun _ => Lib.hid HP.out.dt.db) (fun hH2 => ?_)
        clear hK Kz hHeld
        have hHeld := hH2 rfl
        clear hH2
        (try simp only [Act.put, List.setIfInBounds_toArray, List.set_cons_zero, List.set_cons_succ])
        refine anyU_ready (rs := [7]) (by kernel_rfl) (by simp) ?_
        refine EachU.cons (o := { dst := some 36, op := Op.buildSlice 23 1 #[(0, Operand.tmp 35)], type := 23, pos := "make.go:562", after := #[{ on := 6, ground := Ground.data }], guard := none }) rfl (fun Kz hK => ?_) EachU.nil
        go_simp
        have HQ := Lib.hid (HP.out.keep (World.grownBy_alloc _ (.cells #[.int .i64 A.r, .int .i64 A.q, .bool A.cp, .slice A.pL A.L.length A.cL, .slice A.pC A.C.length A.cC] 38) none))
        clear HP
        refine hK.out _ _ (fun _ => Lib.hid HQ.out.dt.db) (fun hH2 => ?_)
        clear hK Kz hHeld
        have hHeld := hH2 rfl
        clear hH2
        (try simp only [Act.put, List.setIfInBounds_toArray, List.set_cons_zero, List.set_cons_succ])
        refine anyU_ready (rs := [8]) (by kernel_rfl) (by simp) ?_
        refine EachU.cons (o := { dst := some 37, op := Op.call { callee := Callee.builtin Builtin.append, args := #[Operand.tmp 30, Operand.tmp 36], argTypes := #[23, 23] }, type := 23, pos := "make.go:562", after := #[{ on := 1, ground := Ground.data }, { on := 7, ground := Ground.data }, { on := 6, ground := Ground.chain }], guard := none }) rfl (fun Kz hK => ?_) EachU.nil
        refine (astep_app adL 5 72 (by decide) adL_len ad_one 38 23 ia _ Try.underlying23 hia hz0 hz1 hz2 rfl (by decide) (by rfl) _ _ (by rfl) (w.heap.size + 2) v l (by rfl) HQ.out.dt.own (some ⟨_, 0, none⟩) 1 1 [A] (by rfl) rfl (by simp) (fun _ => True) (rdf_one _ trivial (cells5V _ _ _ _ _ _ _) 1) (by omega) (by simp; omega) (by have := HQ.out.dt.sz; omega) ?_)
        intro p4 c4 w8 hown hg hat
        have HD5 := Lib.hid (HQ.out.app ha hown hg hat)
        have b0 := HD5.out.e0
        have fB := frozen_of_row _ _ 0 _ _ HD5.out.db
        clear hown hg hat HQ
        refine hK.out _ _ (fun h => by cases h) (fun _ => ?_)
        clear hK Kz
        (try simp only [Act.put, List.setIfInBounds_toArray, List.set_cons_zero, List.set_cons_succ])
        refine anyU_ready (rs := [9]) (by kernel_rfl) (by simp) ?_
        refine EachU.cons (o := { dst := some 38, op := Op.fieldAddr 25 (Operand.tmp 5) 0, type := 0, pos := "make.go:562", after := #[{ on := 0, ground := Ground.phase }, { on := 1, ground := Ground.phase }, { on := 2, ground := Ground.phase }, { on := 3, ground := Ground.phase }, { on := 4, ground := Ground.phase }, { on := 5, ground := Ground.phase }, { on := 6, ground := Ground.phase }, { on := 7, ground := Ground.phase }, { on := 8, ground := Ground.phase }], guard := none }) rfl (fun Kz hK => ?_) EachU.nil
        go_simp
        refine hK.out _ _ (fun h => by cases h) (fun _ => ?_)
        clear hK Kz
        (try simp only [Act.put, List.setIfInBounds_toArray, List.set_cons_zero, List.set_cons_succ])
        refine anyU_ready (rs := [10]) (by kernel_rfl) (by simp) ?_
        refine EachU.cons (o := { dst := none, op := Op.store 23 (Operand.tmp 38) (Operand.tmp 37), type := 0, pos := "make.go:562", after := #[{ on := 9, ground := Ground.data }, { on := 8, ground := Ground.data }, { on := 8, ground := Ground.chain }, { on := 0, ground := Ground.phase }, { on := 1, ground := Ground.phase }, { on := 2, ground := Ground.phase }, { on := 3, ground := Ground.phase }, { on := 4, ground := Ground.phase }, { on := 5, ground := Ground.phase }, { on := 6, ground := Ground.phase }, { on := 7, ground := Ground.phase }, { on := 8, ground := Ground.phase }], guard := none }) rfl (fun Kz hK => ?_) EachU.nil
        go_simp
        refine hK.out _ _ (fun h => by cases h) (fun _ => ?_)
        clear hK Kz
        (try simp only [Act.put, List.setIfInBounds_toArray, List.set_cons_zero, List.set_cons_succ])
        refine anyU_done (by kernel_rfl) ?_ _
        have K1 := Lib.hid (HD5.out.put ha)
        have HVA : Hid (DL (l ++ [A])) := Lib.hid (HV.out.1.add HTA.out.ll HTA.out.cl)
        clear HD5 hHeld b0 fB
        go_upto_region 9 with fail
        generalize World.setCell _ _ _ = w9 at *
        have hd0 := K1.out.e0
        have hz0' := cell_of_row _ _ 0 _ _ _ K1.out.zb
        have f0 := frozen_of_row _ _ 0 _ _ K1.out.zb
        have g9 := fun wz : World => grown_setCell wz ⟨w.heap.size, 0, none⟩ (.slice p4 (l.length + [A].length) c4)
        have HP9 := Lib.hid (dt_post (n := n) K1.out (by first | rfl | (simp; done)) ha (g9 _) (by rw [List.length_append]; simp; omega) HVA.out (fun h => absurd hn0 h))
        have HT9 := Lib.hid (d1_set (.slice p4 (l.length + [A].length) c4) K1.out.zb)
        clear K1 g9
        go_wp2_with fail
        refine bodyPost_ret (res_db1 rfl _ _ w.heap.size _ rfl HT9.out) rfl ?_
        exact HP9.out
    · have K1 := K
      clear K
      obtain ⟨p9, c9, rfl, -, -⟩ := own_shape K1.out.own
      have hd0 := K1.out.e0
      have hz0' := cell_of_row _ _ 0 _ _ _ K1.out.zb
      have f0 := frozen_of_row _ _ 0 _ _ K1.out.zb
      have g9 := fun wz : World => grown_setCell wz ⟨w.heap.size, 0, none⟩ (.slice p9 (l).length c9)
      have HP9 := Lib.hid (dt_post (n := n) K1.out (by first | rfl | (simp; done)) ha (g9 _) (by omega) HV.out.1 (fun _ => HV.out.2))
      have HT9 := Lib.hid (d1_set (.slice p9 (l).length c9) K1.out.zb)
      clear K1 g9
      go_wp2_with fail
      refine bodyPost_ret (res_db1 rfl _ _ w.heap.size _ rfl HT9.out) rfl ?_
      exact HP9.out
end Go.Proofs.Ytnpkihioklpnmaa

/- database: Put. -/
namespace Go.Proofs.Ytnpkihioklpnmaa
open Go.RowKit Bs
set_option maxRecDepth 100000 in
theorem res_db_b {fn : Func} {p u : Tmp} (h : fn.results = #[.cell p 25, .tmp u]) (tmps : Array Value) (w : World) (g : Nat) (x : Value) (hp : tmps.getD p undef = .pointer (some ⟨g, 0, none⟩)) (hg : w.heap[g]? = some (.cells #[x] 25 (0, 0))) :
    (results fn tmps).run Try.prog w = .ok (.tuple #[.agg #[x], tmps.getD u undef]) w := by
  have hp' : tmps[p]?.getD undef = .pointer (some ⟨g, 0, none⟩) := by simpa using hp
  rw [results_cell_tmp h]
  simp [hp', asAddr, run_loadVar_row w g _ _ _ _ _ hg Try.underlying25 rfl db_size1, Result.andThen]
set_option maxRecDepth 100000 in
theorem three_boxesD (w : World) (X Y Z : Array Value) (t u s : TypeId) :
    (((w.alloc (.cells X t)).alloc (.cells Y u)).alloc (.cells Z s)).heap[w.heap.size]? = some (.cells X t (0, 0)) ∧ (((w.alloc (.cells X t)).alloc (.cells Y u)).alloc (.cells Z s)).heap[w.heap.size + 1]? = some (.cells Y u (0, 0)) ∧ (((w.alloc (.cells X t)).alloc (.cells Y u)).alloc (.cells Z s)).heap[w.heap.size + 2]? = some (.cells Z s (0, 0)) ∧ w.grownBy (((w.alloc (.cells X t)).alloc (.cells Y u)).alloc (.cells Z s)) none ∧ (((w.alloc (.cells X t)).alloc (.cells Y u)).alloc (.cells Z s)).heap.size = w.heap.size + 3 := by
  obtain ⟨k1, k2, k3, k4⟩ := two_boxes w X Y t u
  obtain ⟨n1, n2⟩ := tone_box ((w.alloc (.cells X t)).alloc (.cells Y u)) Z s
  rw [k4] at n1
  refine ⟨kept_row k1 n2 (by simp), kept_row k2 n2 (by simp), n1, grown_trans k3 n2, ?_⟩
  rw [World.size_alloc, k4]
/-- What Put returns. -/
def PutRes (l : List Ad) (A : Ad) (q : Nat → Prop) (W : World) (e : Ending) (w' : World) : Prop :=
  ∃ (m : List Ad) (p : Option Addr) (c : Nat), e = .returned (.tuple #[.agg #[.slice p m.length c], .bool (pD l A)]) ∧ m.map fz = (putV l A).map fz ∧ RdA w' q (.slice p m.length c) m ∧ (m.length ≤ c ∧ c ≤ 9223372036854775807) ∧ (p = none → c = 0) ∧ W.grownBy w' none
/-- While Put works: the arguments' boxes, the result's. -/
structure PuW (W : World) (l : List Ad) (p : Option Addr) (c : Nat) (A : Ad) (w : World) : Prop where
  d : w.heap[W.heap.size]? = some (.cells #[.slice p l.length c] 25 (0, 0))
  a : w.heap[W.heap.size + 1]? = some (.cells #[.int .i64 A.r, .int .i64 A.q, .bool A.cp, .slice A.pL A.L.length A.cL, .slice A.pC A.C.length A.cC] 38 (0, 0))
  z : w.heap[W.heap.size + 2]? = some (.cells #[.slice none 0 0] 25 (0, 0))
  db : RdA w (· < W.heap.size) (.slice p l.length c) l
  ok : AdOk w (· < W.heap.size) A
  gr : W.grownBy w none
set_option maxRecDepth 100000 in
theorem PuW.keep {W w w1 : World} {l : List Ad} {p : Option Addr} {c : Nat} {A : Ad} (h : PuW W l p c A w) (g : w.grownBy w1 none) : PuW W l p c A w1 := ⟨kept_row h.d g (by simp), kept_row h.a g (by simp), kept_row h.z g (by simp), h.db.keep g, h.ok.keep g, grown_trans h.gr g⟩
set_option maxRecDepth 100000 in
theorem pu_start {w : World} {l : List Ad} {p : Option Addr} {c : Nat} {A : Ad} {q : Nat → Prop} (hR : RdA w q (.slice p l.length c) l) (hA : AdOk w q A) : PuW w l p c A (((w.alloc (.cells #[.slice p l.length c] 25)).alloc (.cells #[.int .i64 A.r, .int .i64 A.q, .bool A.cp, .slice A.pL A.L.length A.cL, .slice A.pC A.C.length A.cC] 38)).alloc (.cells #[.slice none 0 0] 25)) ∧ (((w.alloc (.cells #[.slice p l.length c] 25)).alloc (.cells #[.int .i64 A.r, .int .i64 A.q, .bool A.cp, .slice A.pL A.L.length A.cL, .slice A.pC A.C.length A.cC] 38)).alloc (.cells #[.slice none 0 0] 25)).heap.size = w.heap.size + 3 := by
  obtain ⟨k1, k2, k3, k4, k5⟩ := three_boxesD w #[.slice p l.length c] #[.int .i64 A.r, .int .i64 A.q, .bool A.cp, .slice A.pL A.L.length A.cL, .slice A.pC A.C.length A.cC] #[.slice none 0 0] 25 38 25
  exact ⟨⟨k1, k2, k3, hR.old.keep k4, hA.old.keep k4, k4⟩, k5⟩
set_option maxRecDepth 100000 in
theorem pD_eq {l m : List Ad} (h : m.map fz = l.map fz) (A : Ad) : okD m = okD l ∧ chg m A = chg l A ∧ (putA m A).map fz = (putA l A).map fz ∧ (put1 m A).map fz = (put1 l A).map fz ∧ (putV m A).map fz = (putV l A).map fz := by
  refine ⟨by rw [← okD_fz m, h, okD_fz], by rw [← chg_fz m, h, chg_fz], by rw [← putA_fz m, h, putA_fz], by rw [← put1_fz m, h, put1_fz], by rw [← putV_fz m, h, putV_fz]⟩
set_option maxRecDepth 100000 in
theorem fz_len {l m : List Ad} (h : m.map fz = l.map fz) : m.length = l.length := by
  have := congrArg List.length h
  rwa [List.length_map, List.length_map] at this
set_option maxRecDepth 100000 in
/-- The row is given back in the result's box. -/
theorem PuW.fin {W w w1 : World} {l m : List Ad} {p p' : Option Addr} {c c' base : Nat} {A : Ad} {v : Value} (h : PuW W l p c A w) (hb : W.heap.size + 3 ≤ base) (g : w.grownBy w1 v.ownBlock) (hv : ∀ b, v.ownBlock = some b → base ≤ b) (hO : OwnD base m (.slice p' m.length c') w1) :
    (w1.setCell ⟨W.heap.size + 2, 0, none⟩ (.slice p' m.length c')).heap[W.heap.size + 2]? = some (.cells #[.slice p' m.length c'] 25 (0, 0)) ∧ OwnD base m (.slice p' m.length c') (w1.setCell ⟨W.heap.size + 2, 0, none⟩ (.slice p' m.length c')) ∧ W.grownBy (w1.setCell ⟨W.heap.size + 2, 0, none⟩ (.slice p' m.length c')) none ∧ w1.cell? ⟨W.heap.size + 2, 0, none⟩ = some (.slice none 0 0) ∧ w1.frozen? ⟨W.heap.size + 2, 0, none⟩ = false := by
  have hz : w1.heap[W.heap.size + 2]? = some (.cells #[.slice none 0 0] 25 (0, 0)) := kept_row h.z g (fun e => by have := hv _ e.symm; omega)
  have gs := grown_setCell w1 ⟨W.heap.size + 2, 0, none⟩ (.slice p' m.length c')
  have g1 : W.grownBy w1 none := by
    cases hvb : v.ownBlock with
    | none => rw [hvb] at g; exact grown_trans h.gr g
    | some b => rw [hvb] at g; exact grown_new h.gr g (by have := hv b hvb; omega)
  exact ⟨d1_set _ hz, hO.grown gs (fun b e => by have : W.heap.size + 2 = b := Option.some.inj e; omega), grown_new g1 gs (by show W.heap.size ≤ W.heap.size + 2; omega), cell_of_row _ _ _ _ _ _ hz, frozen_of_row _ _ 0 _ _ hz⟩
set_option maxRecDepth 100000 in
set_option maxHeartbeats 6400000 in
theorem dput_any (l : List Ad) (A : Ad) (p : Option Addr) (c : Nat) (q : Nat → Prop) (w : World) (hR : RdA w q (.slice p l.length c) l) (hn : p = none → c = 0) (hc : l.length ≤ c ∧ c ≤ 9223372036854775807) (hm : l.length ≤ 900) (hs : ∀ A ∈ l, A.L.length ≤ 1000 ∧ A.C.length ≤ 1000) (hA : AdOk w q A) (hnA : AdNl A) (hsA : A.L.length ≤ 1000 ∧ A.C.length ≤ 1000) :
    Calls Try.prog 26 #[.agg #[.slice p l.length c], .agg #[.int .i64 A.r, .int .i64 A.q, .bool A.cp, .slice A.pL A.L.length A.cL, .slice A.pC A.C.length A.cC]] w fun e w' => PutRes l A (w.heap.size ≤ ·) w e w' := by
  have H0 := Lib.hid (pu_start hR hA).1
  have HS0 := Lib.hid (pu_start hR hA).2
  clear hR hA
  go_enter Try.func26, Try.ntmps26
  go_upto_region 1 with fail
  generalize ((w.alloc _).alloc _).alloc _ = wa at *
  have c0 : wa.cell? ⟨w.heap.size, 0, none⟩ = some (.slice p l.length c) := cell_of_row _ _ _ _ _ _ H0.out.d
  go_wp2_with fail
  refine (dcopies_any l p c _ wa H0.out.db hn hc (by omega) hs).mono ?_
  rintro e w1 ⟨m0, v, rfl, hfz, hO, hg⟩
  have H1 := Lib.hid (H0.out.keep hg)
  have HE := Lib.hid (pD_eq hfz A)
  have HL := Lib.hid (fz_len hfz)
  have HFZ := Lib.hid hfz
  have hbs : w.heap.size + 3 ≤ wa.heap.size := Nat.le_of_eq HS0.out.symm
  obtain ⟨p1, c1, rfl, hc1, hn1⟩ := hO.shape
  obtain ⟨base, hbase⟩ : ∃ base, wa.heap.size = base := ⟨_, rfl⟩
  rw [hbase] at hO hbs
  have HO := Lib.hid (And.intro hO (show base ≤ w1.heap.size by rw [← hbase]; exact hg.size))
  clear hfz hO hg hbase H0 HS0 c0
  have c0 : w1.cell? ⟨w.heap.size, 0, none⟩ = some (.slice p l.length c) := cell_of_row _ _ _ _ _ _ H1.out.d
  go_wp2_with fail
  refine (dvalid_any l p c _ w1 H1.out.db (by omega)).mono ?_
  rintro e w2 ⟨rfl, hg⟩
  have H2 := Lib.hid (H1.out.keep hg)
  have HO2 := Lib.hid (And.intro (HO.out.1.keep hg) (Nat.le_trans HO.out.2 hg.size))
  clear hg H1 HO c0
  obtain ⟨X, hX⟩ : ∃ X, okD l = X := ⟨_, rfl⟩
  have HX := Lib.hid hX
  rw [hX]
  clear hX
  cases X with
  | false =>
    have hp : pD l A = false := by unfold pD; rw [HX.out]; rfl
    obtain ⟨t1, t2, t3, t4, t5⟩ := H2.out.fin (v := .slice none 0 0) hbs (grown_none (grown_refl _ _) _) (fun b e => by cases e) HO2.out.1
    have HF : Hid (PutRes l A (w.heap.size ≤ ·) w (.returned (.tuple #[.agg #[.slice p1 m0.length c1], .bool false])) _) := Lib.hid ⟨m0, p1, c1, by rw [hp], by rw [HFZ.out]; unfold putV; rw [hp]; rfl, t2.rda.2.mono (fun b hb => by omega), hc1, hn1, t3⟩
    have HT := Lib.hid t1
    clear t1 t2 t3 hp H2 HO2
    go_wp2_with fail
    refine bodyPost_ret (res_db_b rfl _ _ (w.heap.size + 2) _ rfl HT.out) rfl ?_
    exact HF.out
  | true =>
    obtain ⟨a0, a1, a2, a3, a4⟩ := row5 H2.out.a
    go_wp2_with fail
    refine (avalid_any A _ w2 H2.out.ok).mono ?_
    rintro e w3 ⟨rfl, hg⟩
    have H3 := Lib.hid (H2.out.keep hg)
    have HO3 := Lib.hid (And.intro (HO2.out.1.keep hg) (Nat.le_trans HO2.out.2 hg.size))
    clear hg H2 HO2 a0 a1 a2 a3 a4
    obtain ⟨Y, hY⟩ : ∃ Y, vAd A = Y := ⟨_, rfl⟩
    have HY := Lib.hid hY
    rw [hY]
    clear hY
    cases Y with
    | false =>
      have hp : pD l A = false := by unfold pD; rw [HX.out, HY.out]; rfl
      obtain ⟨t1, t2, t3, t4, t5⟩ := H3.out.fin (v := .slice none 0 0) hbs (grown_none (grown_refl _ _) _) (fun b e => by cases e) HO3.out.1
      have HF : Hid (PutRes l A (w.heap.size ≤ ·) w (.returned (.tuple #[.agg #[.slice p1 m0.length c1], .bool false])) _) := Lib.hid ⟨m0, p1, c1, by rw [hp], by rw [HFZ.out]; unfold putV; rw [hp]; rfl, t2.rda.2.mono (fun b hb => by omega), hc1, hn1, t3⟩
      have HT := Lib.hid t1
      clear t1 t2 t3 hp H3 HO3
      go_wp2_with fail
      refine bodyPost_ret (res_db_b rfl _ _ (w.heap.size + 2) _ rfl HT.out) rfl ?_
      exact HF.out
    | true =>
      obtain ⟨a0, a1, a2, a3, a4⟩ := row5 H3.out.a
      have hpair := (okD_OkD (by rw [HE.out.1]; exact HX.out : okD m0 = true)).pair
      go_wp2_with fail
      refine (dput1_any m0 A base (.slice p1 m0.length c1) _ w3 HO3.out.1 HO3.out.2 (by rw [HL.out]; exact hm) hpair H3.out.ok hnA hsA).mono ?_
      rintro e w4 ⟨m, v', rfl, hmf, hO, hg⟩
      obtain ⟨p2, c2, rfl, hc2, hn2⟩ := hO.shape
      have hp : pD l A = chg m0 A := by unfold pD; rw [HX.out, HY.out, HE.out.2.1]; rfl
      obtain ⟨t1, t2, t3, t4, t5⟩ := H3.out.fin (v := .slice p1 m0.length c1) hbs hg (fun b e => (HO3.out.1.own.lt b e).1) hO
      have HF : Hid (PutRes l A (w.heap.size ≤ ·) w (.returned (.tuple #[.agg #[.slice p2 m.length c2], .bool (chg m0 A)])) _) := Lib.hid ⟨m, p2, c2, by rw [hp], by
        rw [hmf, HE.out.2.2.2.1]; unfold putV put1; rw [hp, HE.out.2.1], t2.rda.2.mono (fun b hb => by omega), hc2, hn2, t3⟩
      have HT := Lib.hid t1
      clear t1 t2 t3 hp hO hg hmf H3 HO3 a0 a1 a2 a3 a4 hpair
      obtain ⟨cb, hcb⟩ : ∃ cb, chg m0 A = cb := ⟨_, rfl⟩
      rw [hcb] at HF ⊢
      clear hcb
      go_wp2_with fail
      refine bodyPost_ret (res_db_b rfl _ _ (w.heap.size + 2) _ rfl HT.out) rfl ?_
      exact HF.out
end Go.Proofs.Ytnpkihioklpnmaa

/- The reference's With. -/
namespace Go.Proofs.Ytnpkihioklpnmaa
open Go.RowKit Bs
/-! With, step by step. -/
section
variable {W w w1 : World} {l acc : List Ad} {p : Option Addr} {c : Nat} {A B : Ad} {q : Nat → Prop} {u v v' : Value}
end
end Go.Proofs.Ytnpkihioklpnmaa

/- Two links compared, two claims compared. -/
namespace Go.Proofs.Ytnpkihioklpnmaa
open Go.RowKit Bs
end Go.Proofs.Ytnpkihioklpnmaa

/- The reference's Same. -/
namespace Go.Proofs.Ytnpkihioklpnmaa
open Go.RowKit Bs
end Go.Proofs.Ytnpkihioklpnmaa

/- The reference: when the claims of an advert are valid, and when an advert is. -/
namespace Go.Proofs.Ytnpkihioklpnmaa
open Go.RowKit Bs
end Go.Proofs.Ytnpkihioklpnmaa

/- The reference's Find, Same, Check of databases; big. -/
namespace Go.Proofs.Ytnpkihioklpnmaa
open Go.RowKit Bs
end Go.Proofs.Ytnpkihioklpnmaa

/- The reference's Check of databases. -/
namespace Go.Proofs.Ytnpkihioklpnmaa
open Go.RowKit Bs
end Go.Proofs.Ytnpkihioklpnmaa

/- The reference's Find of databases. -/
namespace Go.Proofs.Ytnpkihioklpnmaa
open Go.RowKit Bs
end Go.Proofs.Ytnpkihioklpnmaa

/- advert: the order of the encodings of valid adverts is that of their fields. -/
namespace Go.Proofs.Ytnpkihioklpnmaa
open Go.RowKit Bs
end Go.Proofs.Ytnpkihioklpnmaa

/- What the reference's Append gives lies in memory of the call's own. -/
namespace Go.Proofs.Ytnpkihioklpnmaa
open Go.RowKit Bs
end Go.Proofs.Ytnpkihioklpnmaa

/- What the reference's Align gives back, where its argument lies in memory of the call's own. -/
namespace Go.Proofs.Ytnpkihioklpnmaa
open Go.RowKit Bs
end Go.Proofs.Ytnpkihioklpnmaa

/- The reference's put of adverts: its bytes are new; Align of bytes of one's own. -/
namespace Go.Proofs.Ytnpkihioklpnmaa
open Go.RowKit Bs
end Go.Proofs.Ytnpkihioklpnmaa

/- The reference's Encode of adverts. -/
namespace Go.Proofs.Ytnpkihioklpnmaa
open Go.RowKit Bs
end Go.Proofs.Ytnpkihioklpnmaa

/- The reference's Newer of adverts. -/
namespace Go.Proofs.Ytnpkihioklpnmaa
open Go.RowKit Bs
end Go.Proofs.Ytnpkihioklpnmaa

/- The reference's Put. -/
namespace Go.Proofs.Ytnpkihioklpnmaa
open Go.RowKit Bs
section
variable {W w w1 : World} {l : List Ad} {p : Option Addr} {c : Nat} {A B : Ad} {q : Nat → Prop} {u v v' : Value}
end
end Go.Proofs.Ytnpkihioklpnmaa

/- database: Merge. -/
namespace Go.Proofs.Ytnpkihioklpnmaa
open Go.RowKit Bs
section
variable {W w w1 : World} {a b m : List Ad} {p p2 p' : Option Addr} {c c2 c' base : Nat} {v : Value}
end
end Go.Proofs.Ytnpkihioklpnmaa

/- The reference's Merge. -/
namespace Go.Proofs.Ytnpkihioklpnmaa
open Go.RowKit Bs
set_option maxRecDepth 100000 in
theorem RdA.and {w : World} {q : Nat → Prop} {v : Value} {l : List Ad} (h : RdA w q v l) : RdA w (fun b => q b ∧ b < w.heap.size) v l := ⟨rdf_and h.row, fun A hA => (h.ok A hA).and, h.nl⟩
section
variable {W w w1 : World} {m m2 b : List Ad} {p p2 p3 : Option Addr} {c c2 c3 : Nat} {q : Nat → Prop}
end
end Go.Proofs.Ytnpkihioklpnmaa

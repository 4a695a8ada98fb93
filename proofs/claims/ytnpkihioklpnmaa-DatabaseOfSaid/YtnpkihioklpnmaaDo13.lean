/- Parts of the proof, packed: DbAwk, DbRs, DbMgM, ToWiW, ToSort, ToSrt2, ToDfs, ToDfsK, ToDfsW, ToComp, ToComp2, ToCompW, ToConn, ToBs, ToOrdM, ToWoM, ToLkM, ToLook, ToReach. -/
import Derived.Test.YtnpkihioklpnmaaDo12
import Derived.Test.YtnpkihioklpnmaaDo10
import Derived.Test.YtnpkihioklpnmaaDo5
import Derived.Deep.AppendLies
import Derived.Deep.CutBlock
import Derived.Test.YtnpkihioklpnmaaDo1
/- The laws of databases: the example. -/
namespace Go.Proofs.Ytnpkihioklpnmaa
open Go.RowKit Bs
set_option maxRecDepth 100000 in
theorem rdf_rowD {w : World} {g : Nat} {t : TypeId} {n c : Nat} {xs : List Value} (h : w.heap[g]? = some (.cells xs.toArray t (0, 0))) : RdF w (· = g) (.slice (some ⟨g, 0, none⟩) n c) n xs :=
  ⟨some ⟨g, 0, none⟩, c, rfl, fun _ => ⟨g, 0, rfl, rfl, fun i x hi => by
    rw [cell_of_row _ _ _ _ _ _ h, Nat.zero_add]
    simpa using hi⟩⟩
def xD (p1 p2 : Option Addr) : List Ad := [⟨1, 1, false, [⟨2, 1, 0⟩, ⟨3, 1, 0⟩], [], p1, 2, none, 0⟩, ⟨2, 1, false, [⟨1, 4, 0⟩], [], p2, 1, none, 0⟩, ⟨3, 1, false, [], [], none, 0, none, 0⟩]
set_option maxRecDepth 100000 in
theorem xD_chk (p1 p2 : Option Addr) : chkD (xD p1 p2) = 0 := by kernel_rfl
set_option maxRecDepth 100000 in
theorem xD_view (p1 p2 : Option Addr) : viewV (xD p1 p2) 1 = ([⟨1, false⟩, ⟨2, false⟩], [⟨1, 2, 1, 4, 0⟩]) := by kernel_rfl
/-- The example in memory. -/
structure XM (w : World) (wb : World) : Prop where
  box : wb.heap[w.heap.size + 1 + 1 + 1]? = some (.cells #[.slice (some ⟨w.heap.size + 1 + 1, 0, none⟩) 3 3] 25 (0, 0))
  r : RdA wb (fun _ => True) (.slice (some ⟨w.heap.size + 1 + 1, 0, none⟩) 3 3) (xD (some ⟨w.heap.size, 0, none⟩) (some ⟨w.heap.size + 1, 0, none⟩))
  gr : w.grownBy wb none
set_option maxRecDepth 100000 in
theorem XM.keep {w wb w1 : World} (h : XM w wb) (g : wb.grownBy w1 none) : XM w w1 := ⟨kept_row h.box g (by simp), h.r.keep g, grown_trans h.gr g⟩
set_option maxRecDepth 100000 in
theorem xm_start (w : World) : XM w ((((w.alloc (.cells #[.int .i64 2, .int .i64 1, .int .i64 0, .int .i64 3, .int .i64 1, .int .i64 0] 73)).alloc (.cells #[.int .i64 1, .int .i64 4, .int .i64 0] 73)).alloc (.cells #[.int .i64 1, .int .i64 1, .bool false, .slice (some ⟨w.heap.size, 0, none⟩) 2 2, .slice none 0 0, .int .i64 2, .int .i64 1, .bool false, .slice (some ⟨w.heap.size + 1, 0, none⟩) 1 1, .slice none 0 0, .int .i64 3, .int .i64 1, .bool false, .slice none 0 0, .slice none 0 0] 38)).alloc (.cells #[.slice (some ⟨w.heap.size + 1 + 1, 0, none⟩) 3 3] 25)) := by
  obtain ⟨k1, k2, k3, k4⟩ := two_boxes w #[.int .i64 2, .int .i64 1, .int .i64 0, .int .i64 3, .int .i64 1, .int .i64 0] #[.int .i64 1, .int .i64 4, .int .i64 0] 73 73
  obtain ⟨wb, hwb⟩ : ∃ wb, wb = (w.alloc (.cells #[.int .i64 2, .int .i64 1, .int .i64 0, .int .i64 3, .int .i64 1, .int .i64 0] 73)).alloc (.cells #[.int .i64 1, .int .i64 4, .int .i64 0] 73) := ⟨_, rfl⟩
  rw [← hwb] at k1 k2 k3 k4 ⊢
  obtain ⟨j1, j2, j3, j4⟩ := two_boxes wb #[.int .i64 1, .int .i64 1, .bool false, .slice (some ⟨w.heap.size, 0, none⟩) 2 2, .slice none 0 0, .int .i64 2, .int .i64 1, .bool false, .slice (some ⟨w.heap.size + 1, 0, none⟩) 1 1, .slice none 0 0, .int .i64 3, .int .i64 1, .bool false, .slice none 0 0, .slice none 0 0] #[.slice (some ⟨w.heap.size + 1 + 1, 0, none⟩) 3 3] 38 25
  rw [k4] at j1 j2
  have a1 := kept_row k1 j3 (by simp)
  have a2 := kept_row k2 j3 (by simp)
  refine ⟨j2, ⟨(rdf_rowD (xs := (xD (some ⟨w.heap.size, 0, none⟩) (some ⟨w.heap.size + 1, 0, none⟩)).flatMap adL) j1).mono (fun _ _ => trivial), fun A hA => ?_, fun A hA => ?_⟩, grown_trans k3 j3⟩
  · simp only [xD, List.mem_cons, List.not_mem_nil, or_false] at hA
    rcases hA with rfl | rfl | rfl
    · exact ⟨(rdf_rowD (xs := [(⟨2, 1, 0⟩ : T3), ⟨3, 1, 0⟩].flatMap t3C) a1).mono (fun _ _ => trivial), ⟨none, 0, rfl, fun h => absurd rfl h⟩, ⟨Nat.le_refl 2, by show (2 : Nat) ≤ _; decide⟩, ⟨Nat.le_refl 0, by show (0 : Nat) ≤ _; decide⟩⟩
    · exact ⟨(rdf_rowD (xs := [(⟨1, 4, 0⟩ : T3)].flatMap t3C) a2).mono (fun _ _ => trivial), ⟨none, 0, rfl, fun h => absurd rfl h⟩, ⟨Nat.le_refl 1, by show (1 : Nat) ≤ _; decide⟩, ⟨Nat.le_refl 0, by show (0 : Nat) ≤ _; decide⟩⟩
    · exact ⟨⟨none, 0, rfl, fun h => absurd rfl h⟩, ⟨none, 0, rfl, fun h => absurd rfl h⟩, ⟨Nat.le_refl 0, by show (0 : Nat) ≤ _; decide⟩, ⟨Nat.le_refl 0, by show (0 : Nat) ≤ _; decide⟩⟩
  · simp only [xD, List.mem_cons, List.not_mem_nil, or_false] at hA
    rcases hA with rfl | rfl | rfl
    · exact ⟨fun h => (by cases h), fun _ => rfl⟩
    · exact ⟨fun h => (by cases h), fun _ => rfl⟩
    · exact ⟨fun _ => rfl, fun _ => rfl⟩
set_option maxRecDepth 100000 in
set_option maxHeartbeats 3200000 in
theorem dawake_any (w : World) : Calls Try.prog 22 #[] w fun e w' => e = .returned (.bool true) ∧ w.grownBy w' none := by
  have H0 := Lib.hid (xm_start w)
  go_enter Try.func22, Try.ntmps22
  go_upto_region 2 with fail
  generalize World.alloc (((w.alloc _).alloc _).alloc _) _ = wb at *
  have c0 : wb.cell? ⟨w.heap.size + 1 + 1 + 1, 0, none⟩ = some (.slice (some ⟨w.heap.size + 1 + 1, 0, none⟩) 3 3) := cell_of_row _ _ _ _ _ _ H0.out.box
  go_wp2_with fail
  refine (dview_any (xD (some ⟨w.heap.size, 0, none⟩) (some ⟨w.heap.size + 1, 0, none⟩)) 1 (some ⟨w.heap.size + 1 + 1, 0, none⟩) 3 _ wb H0.out.r (show 3 ≤ 9223372036854775807 by decide)).mono ?_
  rintro e w1 ⟨⟨R, L, pR, cR, pL, cL⟩, rfl, hv, hT, hg⟩
  rw [xD_view] at hv
  injection hv with e1 e2
  simp only at e1 e2
  subst e1 e2
  have gal := World.grownBy_alloc w1 (.cells #[.slice pR 2 cR, .slice pL 1 cL] 59) none
  have H1 := Lib.hid (And.intro (H0.out.keep (grown_trans hg gal)) (And.intro (heap_alloc_new w1 (.cells #[.slice pR 2 cR, .slice pL 1 cL] 59)) (hT.keep gal)))
  clear hT hg gal H0 c0
  go_upto_region 3 with fail
  generalize w1.alloc _ = w2 at *
  have c0 : w2.cell? ⟨w.heap.size + 1 + 1 + 1, 0, none⟩ = some (.slice (some ⟨w.heap.size + 1 + 1, 0, none⟩) 3 3) := cell_of_row _ _ _ _ _ _ H1.out.1.box
  go_wp2_with fail
  refine (dcheck_any (xD (some ⟨w.heap.size, 0, none⟩) (some ⟨w.heap.size + 1, 0, none⟩)) (some ⟨w.heap.size + 1 + 1, 0, none⟩) 3 _ w2 H1.out.1.r (show 3 ≤ 9223372036854775807 by decide)).mono ?_
  rw [xD_chk]
  rintro e w3 ⟨rfl, hg⟩
  have H2 := Lib.hid (And.intro (kept_row H1.out.2.1 hg (by simp)) (And.intro (grown_trans H1.out.1.gr hg) (H1.out.2.2.keep hg)))
  clear hg H1 c0
  obtain ⟨b0, b1⟩ := row_cells H2.out.1
  obtain ⟨-, b, off, rfl, -, hc⟩ := RdF.cells (f := lkC) (k := 5) (fun _ => rfl) (by decide) H2.out.2.2.l (show 0 < 1 by decide)
  have l0 := hc 0 ⟨1, 2, 1, 4, 0⟩ rfl 0 _ rfl
  have l1 := hc 0 ⟨1, 2, 1, 4, 0⟩ rfl 1 _ rfl
  have l2 := hc 0 ⟨1, 2, 1, 4, 0⟩ rfl 2 _ rfl
  have l3 := hc 0 ⟨1, 2, 1, 4, 0⟩ rfl 3 _ rfl
  have l4 := hc 0 ⟨1, 2, 1, 4, 0⟩ rfl 4 _ rfl
  simp only [Nat.zero_mul, Nat.add_zero] at l0 l1 l2 l3 l4
  clear hc
  go_wp2_with fail
  go_ret
  exact ⟨rfl, H2.out.2.1⟩
end Go.Proofs.Ytnpkihioklpnmaa

/- The reference's Same of databases. -/
namespace Go.Proofs.Ytnpkihioklpnmaa
open Go.RowKit Bs
end Go.Proofs.Ytnpkihioklpnmaa

/- The law DatabaseMerges: the mathematics, what memory holds. -/
namespace Go.Proofs.Ytnpkihioklpnmaa
open Go.RowKit Bs
section
variable {w w' : World} {q q' : Nat → Prop} {l m a b : List Ad} {p : Option Addr} {c n : Nat}
set_option maxRecDepth 100000 in
theorem vAd_sz {A : Ad} (h : vAd A = true) : A.L.length ≤ 23 ∧ A.C.length ≤ 8 := by
  unfold vAd at h
  rw [Bool.and_eq_true, Bool.and_eq_true] at h
  obtain ⟨h1, -, h3⟩ := h
  unfold vHd at h1
  unfold vClaims at h3
  rw [Bool.and_eq_true] at h3
  exact ⟨(of_decide_eq_true h1).2.2, of_decide_eq_true h3.1⟩
end
/-! Merge is commutative, associative, idempotent. -/
set_option maxRecDepth 100000 in
theorem OkD.fz {l : List Ad} (h : OkD l) : OkD (l.map fz) := okD_OkD (by rw [okD_fz]; exact h.ok)
section
variable {a b c a' b' : List Ad}
end
end Go.Proofs.Ytnpkihioklpnmaa

/- topology: Without, the walk. -/
namespace Go.Proofs.Ytnpkihioklpnmaa
open Go.RowKit Bs
end Go.Proofs.Ytnpkihioklpnmaa

/- slices.Sort of at most twelve numbers of the call's own. -/
namespace Go.Proofs.Ytnpkihioklpnmaa
open Go.RowKit Bs
end Go.Proofs.Ytnpkihioklpnmaa

/- slices.Sort of at most twelve numbers. -/
namespace Go.Proofs.Ytnpkihioklpnmaa
open Go.RowKit Bs
/-- Insertion sort, as a function. -/
def insI (x : Int) : List Int → List Int
  | [] => [x]
  | y :: l => if x ≤ y then x :: y :: l else y :: insI x l
def srt : List Int → List Int
  | [] => []
  | x :: l => insI x (srt l)
set_option maxRecDepth 100000 in
theorem insI_perm (x : Int) : ∀ l, (insI x l).Perm (x :: l)
  | [] => List.Perm.refl _
  | y :: l => by
    rw [insI]
    split
    · exact List.Perm.refl _
    · exact ((insI_perm x l).cons y).trans (List.Perm.swap x y l)
set_option maxRecDepth 100000 in
theorem srt_perm : ∀ l, (srt l).Perm l
  | [] => List.Perm.refl _
  | x :: l => (insI_perm x _).trans ((srt_perm l).cons x)
set_option maxRecDepth 100000 in
theorem insI_sorted (x : Int) : ∀ l : List Int, l.Pairwise (· ≤ ·) → (insI x l).Pairwise (· ≤ ·)
  | [], _ => by simp [insI]
  | y :: l, h => by
    rw [insI]
    split
    · rename_i hxy
      rw [List.pairwise_cons]
      refine ⟨fun z hz => ?_, h⟩
      rcases List.mem_cons.1 hz with rfl | hz
      · exact hxy
      · exact Int.le_trans hxy ((List.pairwise_cons.1 h).1 z hz)
    · rename_i hxy
      rw [List.pairwise_cons]
      refine ⟨fun z hz => ?_, insI_sorted x l (List.pairwise_cons.1 h).2⟩
      have := (insI_perm x l).mem_iff.1 hz
      rcases List.mem_cons.1 this with rfl | hz
      · omega
      · exact (List.pairwise_cons.1 h).1 z hz
set_option maxRecDepth 100000 in
theorem srt_sorted : ∀ l, (srt l).Pairwise (· ≤ ·)
  | [] => List.Pairwise.nil
  | x :: l => insI_sorted x _ (srt_sorted l)
end Go.Proofs.Ytnpkihioklpnmaa

/- topology: what Components' join visits; what memory holds while it runs. -/
namespace Go.Proofs.Ytnpkihioklpnmaa
open Go.RowKit Bs
/-- The routers that are visited from r on, behind those that are visited already. -/
def dfs (L : List Lk) : Nat → Int → List Int → List Int
  | 0, _, S => S
  | k + 1, r, S => (nbL L r).foldl (fun S n => if hasI S n then S else dfs L k n S) (S ++ [r])
def dstep (L : List Lk) (k : Nat) (S : List Int) (n : Int) : List Int := if hasI S n then S else dfs L k n S
set_option maxRecDepth 100000 in
theorem dfs_succ (L : List Lk) (k : Nat) (r : Int) (S : List Int) : dfs L (k + 1) r S = (nbL L r).foldl (dstep L k) (S ++ [r]) := rfl
set_option maxRecDepth 100000 in
theorem dstep_ext (L : List Lk) (k : Nat) (h : ∀ r S, ∃ T, dfs L k r S = S ++ T) (S : List Int) (n : Int) : ∃ T, dstep L k S n = S ++ T := by
  unfold dstep
  split
  · exact ⟨[], by simp⟩
  · exact h n S
set_option maxRecDepth 100000 in
theorem fold_ext {f : List Int → Int → List Int} (h : ∀ S n, ∃ T, f S n = S ++ T) : ∀ (N : List Int) (S : List Int), ∃ T, N.foldl f S = S ++ T
  | [], S => ⟨[], by simp⟩
  | n :: N, S => by
    obtain ⟨T, hT⟩ := h S n
    obtain ⟨U, hU⟩ := fold_ext h N (f S n)
    exact ⟨T ++ U, by rw [List.foldl_cons, hU, hT, List.append_assoc]⟩
set_option maxRecDepth 100000 in
theorem dfs_ext (L : List Lk) : ∀ (k : Nat) (r : Int) (S : List Int), ∃ T, dfs L k r S = S ++ T
  | 0, _, S => ⟨[], by simp [dfs]⟩
  | k + 1, r, S => by
    obtain ⟨T, hT⟩ := fold_ext (dstep_ext L k (dfs_ext L k)) (nbL L r) (S ++ [r])
    exact ⟨[r] ++ T, by rw [dfs_succ, hT, List.append_assoc]⟩
set_option maxRecDepth 100000 in
theorem hasI_app (S T : List Int) (x : Int) : hasI (S ++ T) x = (hasI S x || hasI T x) := by
  unfold hasI
  rw [List.any_append]
/-- How many of the numbers are not visited. -/
def notS (S : List Int) (i : Nat) : Bool := !hasI S (i : Int)
def uns (S : List Int) : Nat := (List.range 100).countP (notS S)
set_option maxRecDepth 100000 in
theorem notS_app (S T : List Int) (i : Nat) (h : notS (S ++ T) i = true) : notS S i = true := by
  unfold notS at *
  rw [hasI_app] at h
  cases h1 : hasI S (i : Int)
  · rfl
  · rw [h1] at h; simp at h
set_option maxRecDepth 100000 in
theorem count_le {p q : Nat → Bool} (h : ∀ i, q i = true → p i = true) : ∀ l : List Nat, l.countP q ≤ l.countP p
  | [] => Nat.le_refl _
  | a :: l => by
    have h1 := count_le h l
    rw [List.countP_cons, List.countP_cons]
    have h2 := h a
    cases hq : q a
    · simp; omega
    · rw [h2 hq]; simp; omega
set_option maxRecDepth 100000 in
theorem count_lt {p q : Nat → Bool} (h : ∀ i, q i = true → p i = true) {n : Nat} (hp : p n = true) (hq : q n = false) : ∀ l : List Nat, n ∈ l → l.countP q + 1 ≤ l.countP p
  | [], hn => by cases hn
  | a :: l, hn => by
    rw [List.countP_cons, List.countP_cons]
    rcases List.mem_cons.1 hn with e | hn
    · subst e
      rw [hp, hq]
      have := count_le h l
      simp; omega
    · have h1 := count_lt h hp hq l hn
      have h2 := h a
      cases hqa : q a
      · simp; omega
      · rw [h2 hqa]; simp; omega
set_option maxRecDepth 100000 in
theorem uns_app (S T : List Int) : uns (S ++ T) ≤ uns S :=
  count_le (notS_app S T) _
set_option maxRecDepth 100000 in
theorem uns_snoc {S : List Int} {n : Nat} (hn : n < 100) (h : hasI S (n : Int) = false) : uns (S ++ [(n : Int)]) + 1 ≤ uns S :=
  count_lt (notS_app S [(n : Int)]) (n := n) (by unfold notS; rw [h]; rfl) (by unfold notS; rw [hasI_app]; unfold hasI; simp) _ (by simpa using hn)
set_option maxRecDepth 100000 in
theorem uns_pos {S : List Int} {n : Nat} (hn : n < 100) (h : hasI S (n : Int) = false) : 0 < uns S := by
  have := uns_snoc hn h
  omega
end Go.Proofs.Ytnpkihioklpnmaa

/- topology: what memory keeps while a component grows. -/
namespace Go.Proofs.Ytnpkihioklpnmaa
open Go.RowKit Bs
end Go.Proofs.Ytnpkihioklpnmaa

/- topology: join, the closure of Components. -/
namespace Go.Proofs.Ytnpkihioklpnmaa
open Go.RowKit Bs
end Go.Proofs.Ytnpkihioklpnmaa

/- topology: Components: the mathematics; what memory holds while it runs. -/
namespace Go.Proofs.Ytnpkihioklpnmaa
open Go.RowKit Bs
def cstep (L : List Lk) (st : List (List Int) × List Int) (r : Rt) : List (List Int) × List Int :=
  if hasI st.2 r.id then st else (st.1 ++ [srt ((dfs L 100 r.id st.2).drop st.2.length)], dfs L 100 r.id st.2)
def compsF (L : List Lk) (R : List Rt) : List (List Int) × List Int := R.foldl (cstep L) ([], [])
/-- The components. -/
def comps (R : List Rt) (L : List Lk) : List (List Int) := if okT R L then (compsF L R).1 else []
set_option maxRecDepth 100000 in
theorem compsF_take {L : List Lk} {R : List Rt} {k : Nat} {r : Rt} (h : R[k]? = some r) : compsF L (R.take (k + 1)) = cstep L (compsF L (R.take k)) r := by
  unfold compsF
  rw [List.take_add_one, h, List.foldl_append]
  rfl
set_option maxRecDepth 100000 in
theorem Rd.lt {w : World} {q : Nat → Prop} {v : Value} {vs : List Value} (h : Rd w q v vs) : Rd w (fun b => q b ∧ b < w.heap.size) v vs := by
  obtain ⟨p, c, hv, hc⟩ := h
  refine ⟨p, c, hv, fun hne => ?_⟩
  obtain ⟨b, off, hp, hb, hx⟩ := hc hne
  refine ⟨b, off, hp, ⟨hb, ?_⟩, hx⟩
  cases vs with
  | nil => exact absurd rfl hne
  | cons x vs =>
    have hcell := hx 0 x rfl
    rcases Nat.lt_or_ge b w.heap.size with h1 | h1
    · exact h1
    · unfold World.cell? at hcell
      rw [Array.getElem?_eq_none h1] at hcell
      cases hcell
end Go.Proofs.Ytnpkihioklpnmaa

/- topology: Components: a component is appended; the beginning; a valid topology. -/
namespace Go.Proofs.Ytnpkihioklpnmaa
open Go.RowKit Bs
set_option maxRecDepth 100000 in
theorem okT_ids {R : List Rt} {L : List Lk} (h : okT R L = true) : R.any wrId = false ∧ L.any (unk R) = false := by
  unfold okT chk at h
  split at h
  · cases h
  split at h
  · cases h
  rename_i h1
  split at h
  · cases h
  split at h
  · cases h
  split at h
  · cases h
  rename_i h2
  exact ⟨by simpa using h1, by simpa using h2⟩
set_option maxRecDepth 100000 in
theorem unk_not {R : List Rt} {L : List Lk} (h : L.any (unk R) = false) : ∀ l ∈ L, hasR R l.a = true ∧ hasR R l.b = true := by
  intro l hl
  have := List.any_eq_false.1 h l hl
  unfold unk at this
  simpa using this
def idsN (R : List Rt) : List Nat := R.map fun r => r.id.toNat
set_option maxRecDepth 100000 in
theorem idsN_of {R : List Rt} {x : Int} (h1 : R.any wrId = false) (h : hasR R x = true) : ∃ m : Nat, x = (m : Int) ∧ m ∈ idsN R := by
  have hr := hasR_range h1 h
  obtain ⟨r, hm, e⟩ := List.any_eq_true.1 h
  rw [decide_eq_true_eq] at e
  exact ⟨x.toNat, by omega, List.mem_map.2 ⟨r, hm, by rw [e]⟩⟩
set_option maxRecDepth 100000 in
theorem okT_near {R : List Rt} {L : List Lk} (h : okT R L = true) (x : Int) : ∀ y ∈ nbL L x, ∃ m : Nat, y = (m : Int) ∧ m ∈ idsN R := by
  obtain ⟨h1, h2⟩ := okT_ids h
  intro y hy
  obtain ⟨l, hl, h3⟩ := List.mem_flatMap.1 hy
  have := unk_not h2 l hl
  unfold nb1 at h3
  rw [List.mem_append] at h3
  rcases h3 with h3 | h3
  · split at h3
    · rw [List.mem_singleton] at h3; subst h3; exact idsN_of h1 this.1
    · cases h3
  · split at h3
    · rw [List.mem_singleton] at h3; subst h3; exact idsN_of h1 this.2
    · cases h3
end Go.Proofs.Ytnpkihioklpnmaa

/- topology: Components, the walk. -/
namespace Go.Proofs.Ytnpkihioklpnmaa
open Go.RowKit Bs
end Go.Proofs.Ytnpkihioklpnmaa

/- topology: Connected. -/
namespace Go.Proofs.Ytnpkihioklpnmaa
open Go.RowKit Bs
def both (a b : Int) (C : List Int) : Bool := hasI C a && hasI C b
/-- Whether two routers are connected. -/
def conn (R : List Rt) (L : List Lk) (a b : Int) : Bool := (comps R L).any (both a b)
end Go.Proofs.Ytnpkihioklpnmaa

/- slices.BinarySearchFunc, for routers and for links. -/
namespace Go.Proofs.Ytnpkihioklpnmaa
open Go.RowKit Bs
end Go.Proofs.Ytnpkihioklpnmaa

/- Links in order, and the tape's topologies: the mathematics. -/
namespace Go.Proofs.Ytnpkihioklpnmaa
open Go.RowKit Bs
/-- A link laid where the lesser ones end. -/
def insL (O : List Lk) (y : Lk) : List Lk := O.takeWhile (fun x => ltL x y) ++ y :: O.dropWhile (fun x => ltL x y)
def ordL (L : List Lk) : List Lk := L.foldl insL []
set_option maxRecDepth 100000 in
theorem insL_cons (a : Lk) (t : List Lk) (y : Lk) : insL (a :: t) y = if ltL a y then a :: insL t y else y :: a :: t := by
  unfold insL
  rw [List.takeWhile_cons, List.dropWhile_cons]
  split <;> rfl
set_option maxRecDepth 100000 in
theorem insL_len (O : List Lk) (y : Lk) : (insL O y).length = O.length + 1 := by
  unfold insL
  rw [List.length_append, List.length_cons]
  have := congrArg List.length (List.takeWhile_append_dropWhile (p := fun x => ltL x y) (l := O))
  rw [List.length_append] at this
  omega
set_option maxRecDepth 100000 in
theorem ordL_take (L : List Lk) (k : Nat) (y : Lk) (h : L[k]? = some y) : ordL (L.take (k + 1)) = insL (ordL (L.take k)) y := by
  unfold ordL
  rw [List.take_add_one, h, List.foldl_append]
  rfl
set_option maxRecDepth 100000 in
theorem foldl_insL_len : ∀ (L O : List Lk), (L.foldl insL O).length = O.length + L.length
  | [], O => by simp
  | a :: t, O => by rw [List.foldl_cons, foldl_insL_len t, insL_len, List.length_cons]; omega
set_option maxRecDepth 100000 in
theorem ordL_len (L : List Lk) : (ordL L).length = L.length := by
  unfold ordL
  rw [foldl_insL_len]; simp
set_option maxRecDepth 100000 in
theorem insL_at (y : Lk) : ∀ (O : List Lk) (j : Nat), j ≤ O.length → (∀ i x, i < j → O[i]? = some x → ltL x y = true) → (∀ x, O[j]? = some x → ltL x y = false) → insL O y = O.take j ++ y :: O.drop j
  | [], j, hj, _, _ => by
    obtain rfl : j = 0 := by simpa using hj
    rfl
  | a :: t, 0, _, _, h2 => by
    rw [insL_cons, h2 a rfl]
    rfl
  | a :: t, j + 1, hj, h1, h2 => by
    rw [insL_cons, if_pos (h1 0 a (by omega) rfl), insL_at y t j (by simpa using hj) (fun i x hi hx => h1 (i + 1) x (by omega) (by simpa using hx)) (fun x hx => h2 x (by simpa using hx))]
    rfl
set_option maxRecDepth 100000 in
theorem mem_insL (y z : Lk) : ∀ O : List Lk, z ∈ insL O y ↔ z = y ∨ z ∈ O
  | [] => by simp [insL]
  | a :: t => by
    rw [insL_cons]
    split
    · rw [List.mem_cons, List.mem_cons, mem_insL y z t]
      constructor
      · rintro (h | h | h)
        · exact .inr (.inl h)
        · exact .inl h
        · exact .inr (.inr h)
      · rintro (h | h | h)
        · exact .inr (.inl h)
        · exact .inl h
        · exact .inr (.inr h)
    · simp
set_option maxRecDepth 100000 in
theorem ltL_trans {x y z : Lk} (h1 : ltL x y = true) (h2 : ltL y z = true) : ltL x z = true := by
  unfold ltL at *
  have h1 := of_decide_eq_true h1
  have h2 := of_decide_eq_true h2
  exact decide_eq_true (by omega)
/-- The ends differ. -/
def EndsNe (x y : Lk) : Prop := x.a ≠ y.a ∨ x.b ≠ y.b
set_option maxRecDepth 100000 in
theorem ltL_flip {x y : Lk} (h : ltL x y = false) (hn : EndsNe x y) : ltL y x = true := by
  unfold ltL at *
  have h := of_decide_eq_false h
  unfold EndsNe at hn
  exact decide_eq_true (by omega)
set_option maxRecDepth 100000 in
theorem insL_pair (y : Lk) : ∀ O : List Lk, O.Pairwise (fun x z => ltL x z = true) → (∀ x ∈ O, EndsNe x y) → (insL O y).Pairwise (fun x z => ltL x z = true)
  | [], _, _ => by simp [insL]
  | a :: t, hp, hn => by
    rw [insL_cons]
    obtain ⟨h1, h2⟩ := List.pairwise_cons.1 hp
    split
    · next hlt =>
      refine List.pairwise_cons.2 ⟨fun z hz => ?_, insL_pair y t h2 (fun x hx => hn x (List.mem_cons_of_mem _ hx))⟩
      rcases (mem_insL y z t).1 hz with rfl | hz
      · exact hlt
      · exact h1 z hz
    · next hlt =>
      have hya := ltL_flip (by simpa using hlt) (hn a (by simp))
      refine List.pairwise_cons.2 ⟨fun z hz => ?_, hp⟩
      rcases List.mem_cons.1 hz with rfl | hz
      · exact hya
      · exact ltL_trans hya (h1 z hz)
set_option maxRecDepth 100000 in
theorem foldl_insL_pair : ∀ (L O : List Lk), O.Pairwise (fun x z => ltL x z = true) → L.Pairwise EndsNe → (∀ x ∈ O, ∀ y ∈ L, EndsNe x y) → (L.foldl insL O).Pairwise (fun x z => ltL x z = true)
  | [], O, h, _, _ => h
  | a :: t, O, h, hL, hx => by
    obtain ⟨h1, h2⟩ := List.pairwise_cons.1 hL
    rw [List.foldl_cons]
    refine foldl_insL_pair t _ (insL_pair a O h (fun x hx1 => hx x hx1 a (by simp))) h2 (fun x hx1 y hy => ?_)
    rcases (mem_insL a x O).1 hx1 with rfl | h3
    · exact h1 y hy
    · exact hx x h3 y (List.mem_cons_of_mem _ hy)
set_option maxRecDepth 100000 in
theorem foldl_insL_mem (z : Lk) : ∀ (L O : List Lk), z ∈ L.foldl insL O ↔ z ∈ O ∨ z ∈ L
  | [], O => by simp
  | a :: t, O => by
    rw [List.foldl_cons, foldl_insL_mem z t, mem_insL, List.mem_cons]
    constructor
    · rintro ((h | h) | h)
      · exact .inr (.inl h)
      · exact .inl h
      · exact .inr (.inr h)
    · rintro (h | h | h)
      · exact .inl (.inr h)
      · exact .inl (.inl h)
      · exact .inr h
set_option maxRecDepth 100000 in
theorem ordL_mem (L : List Lk) (z : Lk) : z ∈ ordL L ↔ z ∈ L := by
  unfold ordL
  rw [foldl_insL_mem]
  simp
set_option maxRecDepth 100000 in
theorem ordL_pair (L : List Lk) (h : L.Pairwise EndsNe) : (ordL L).Pairwise (fun x z => ltL x z = true) :=
  foldl_insL_pair L [] List.Pairwise.nil h (fun x hx => by simp at hx)
set_option maxRecDepth 100000 in
theorem asc_of_pair {α : Type} (f : α → α → Bool) : ∀ l : List α, l.Pairwise (fun x z => f x z = true) → ascB f l = true
  | [], _ => rfl
  | [a], _ => rfl
  | a :: b :: t, h => by
    obtain ⟨h1, h2⟩ := List.pairwise_cons.1 h
    rw [ascB, h1 b (by simp), asc_of_pair f (b :: t) h2]
    rfl
/-- The routers 1 to k. -/
def rts (k : Nat) : List Rt := (List.range k).map fun (i : Nat) => (⟨(i : Int) + 1, true⟩ : Rt)
set_option maxRecDepth 100000 in
theorem rts_succ (k : Nat) : rts (k + 1) = rts k ++ [⟨(k : Int) + 1, true⟩] := by
  unfold rts
  rw [List.range_succ, List.map_append]
  rfl
set_option maxRecDepth 100000 in
theorem rts_len (k : Nat) : (rts k).length = k := by unfold rts; simp
set_option maxRecDepth 100000 in
theorem rts_mem (k : Nat) (r : Rt) : r ∈ rts k ↔ ∃ i : Nat, i < k ∧ r = ⟨(i : Int) + 1, true⟩ := by
  unfold rts
  rw [List.mem_map]
  constructor
  · rintro ⟨i, hi, rfl⟩; exact ⟨i, List.mem_range.1 hi, rfl⟩
  · rintro ⟨i, hi, rfl⟩; exact ⟨i, List.mem_range.2 hi, rfl⟩
/-- Links of the routers 1 to k, each before (b, a) in the order that the tape makes them, no two with the same ends. -/
structure GoodL (k b a : Int) (L : List Lk) : Prop where
  ok : ∀ l ∈ L, (1 ≤ l.a ∧ l.a < l.b ∧ l.b ≤ k) ∧ wrNum l = false
  lt : ∀ l ∈ L, l.b < b ∨ (l.b = b ∧ l.a < a)
  ne : L.Pairwise EndsNe
set_option maxRecDepth 100000 in
theorem GoodL.nil (k b a : Int) : GoodL k b a [] := ⟨by simp, by simp, List.Pairwise.nil⟩
set_option maxRecDepth 100000 in
theorem GoodL.next {k b a : Int} {L : List Lk} (h : GoodL k b a L) : GoodL k b (a + 1) L := ⟨h.ok, fun l hl => by rcases h.lt l hl with h1 | h1 <;> omega, h.ne⟩
set_option maxRecDepth 100000 in
theorem GoodL.row {k b a : Int} {L : List Lk} (h : GoodL k b a L) : GoodL k (b + 1) 1 L := ⟨h.ok, fun l hl => by rcases h.lt l hl with h1 | h1 <;> omega, h.ne⟩
set_option maxRecDepth 100000 in
theorem GoodL.add {k b a : Int} {L : List Lk} (h : GoodL k b a L) (y : Lk) (ha : y.a = a) (hb : y.b = b) (h1 : 1 ≤ a) (h2 : a < b) (h3 : b ≤ k) (hw : wrNum y = false) : GoodL k b (a + 1) (L ++ [y]) := by
  refine ⟨fun l hl => ?_, fun l hl => ?_, ?_⟩
  · rcases List.mem_append.1 hl with hl | hl
    · exact h.ok l hl
    · obtain rfl : l = y := by simpa using hl
      exact ⟨by omega, hw⟩
  · rcases List.mem_append.1 hl with hl | hl
    · rcases h.lt l hl with h4 | h4 <;> omega
    · obtain rfl : l = y := by simpa using hl
      omega
  · refine List.pairwise_append.2 ⟨h.ne, by simp, fun x hx z hz => ?_⟩
    obtain rfl : z = y := by simpa using hz
    unfold EndsNe
    rcases h.lt x hx with h4 | h4 <;> omega
set_option maxRecDepth 100000 in
theorem chk_good {k : Nat} {b a : Int} {L : List Lk} (h : GoodL k b a L) (hk : k ≤ 24) (hl : L.length ≤ 60) : chk (rts k) (ordL L) = 0 := by
  unfold chk
  rw [if_neg (by rw [rts_len, ordL_len]; omega), if_neg, if_neg, if_neg, if_neg, if_neg, if_neg]
  · rw [asc_of_pair ltL _ (ordL_pair L h.ne)]
    simp
  · rw [List.any_eq_true]
    rintro ⟨l, hl1, hw⟩
    have := (h.ok l ((ordL_mem L l).1 hl1)).1
    unfold wrEnd at hw
    have := of_decide_eq_true hw
    omega
  · rw [List.any_eq_true]
    rintro ⟨l, hl1, hw⟩
    have := (h.ok l ((ordL_mem L l).1 hl1)).1
    have hh : ∀ x : Int, 1 ≤ x → x ≤ k → hasR (rts k) x = true := fun x h1 h2 => by
      unfold hasR
      refine List.any_eq_true.2 ⟨⟨x, true⟩, (rts_mem k _).2 ⟨(x - 1).toNat, by omega, ?_⟩, by simp⟩
      congr 1
      omega
    unfold unk at hw
    rw [hh _ this.1 (by omega), hh _ (by omega) this.2.2] at hw
    simp at hw
  · rw [List.any_eq_true]
    rintro ⟨l, hl1, hw⟩
    rw [(h.ok l ((ordL_mem L l).1 hl1)).2] at hw
    cases hw
  · rw [asc_of_pair ltR (rts k)]
    · simp
    · unfold rts
      rw [List.pairwise_map]
      exact List.pairwise_lt_range.imp (fun {a b} hab => decide_eq_true (by show (a : Int) + 1 < (b : Int) + 1; omega))
  · rw [List.any_eq_true]
    rintro ⟨r, hr, hw⟩
    obtain ⟨i, hi, rfl⟩ := (rts_mem k r).1 hr
    have : wrId ⟨(i : Int) + 1, true⟩ = false := by
      unfold wrId
      rw [decide_eq_true (by constructor <;> (dsimp; omega))]
      rfl
    rw [this] at hw
    cases hw
/-- What the tape says of a topology of at most 'most' routers. -/
def TopOf (most : Nat) (n : Int) (R : List Rt) (L : List Lk) : Prop :=
  1 ≤ R.length ∧ (R.length ≤ most + 1 ∨ 25 ≤ R.length) ∧ R.length ≤ most + 25 ∧ L.length ≤ 60 ∧ (n ≤ 0 → chk R L = 0 ∧ R.length ≤ most)
end Go.Proofs.Ytnpkihioklpnmaa

/- What is left of a valid topology is valid. -/
namespace Go.Proofs.Ytnpkihioklpnmaa
open Go.RowKit Bs
set_option maxRecDepth 100000 in
theorem pair_of_asc {α : Type} (f : α → α → Bool) (ht : ∀ x y z, f x y = true → f y z = true → f x z = true) : ∀ l : List α, ascB f l = true → l.Pairwise (fun x z => f x z = true)
  | [], _ => List.Pairwise.nil
  | [a], _ => by simp
  | a :: b :: t, h => by
    rw [ascB, Bool.and_eq_true] at h
    have hp := pair_of_asc f ht (b :: t) h.2
    refine List.pairwise_cons.2 ⟨fun z hz => ?_, hp⟩
    rcases List.mem_cons.1 hz with rfl | hz
    · exact h.1
    · exact ht a b z h.1 ((List.pairwise_cons.1 hp).1 z hz)
/-- What a valid topology meets. -/
structure OkAll (R : List Rt) (L : List Lk) : Prop where
  l1 : R.length ≤ 24
  l2 : L.length ≤ 60
  id : R.any wrId = false
  rs : ascB ltR R = true
  nm : L.any wrNum = false
  un : L.any (unk R) = false
  en : L.any wrEnd = false
  ls : ascB ltL L = true
set_option maxRecDepth 100000 in
theorem chk_okAll {R : List Rt} {L : List Lk} (h : chk R L = 0) : OkAll R L := by
  unfold chk at h
  by_cases h1 : 24 < R.length ∨ 60 < L.length
  · rw [if_pos h1] at h; cases h
  rw [if_neg h1] at h
  cases h2 : R.any wrId
  case true => rw [h2] at h; cases h
  cases h3 : ascB ltR R
  case false => rw [h2, h3] at h; cases h
  cases h4 : L.any wrNum
  case true => rw [h2, h3, h4] at h; cases h
  cases h5 : L.any (unk R)
  case true => rw [h2, h3, h4, h5] at h; cases h
  cases h6 : L.any wrEnd
  case true => rw [h2, h3, h4, h5, h6] at h; cases h
  cases h7 : ascB ltL L
  case false => rw [h2, h3, h4, h5, h6, h7] at h; cases h
  exact ⟨by omega, by omega, h2, h3, h4, h5, h6, h7⟩
set_option maxRecDepth 100000 in
theorem ltR_trans (x y z : Rt) (h1 : ltR x y = true) (h2 : ltR y z = true) : ltR x z = true := by
  unfold ltR at *
  have h1 := of_decide_eq_true h1
  have h2 := of_decide_eq_true h2
  exact decide_eq_true (by omega)
end Go.Proofs.Ytnpkihioklpnmaa

/- What is looked up in a valid topology: the mathematics. -/
namespace Go.Proofs.Ytnpkihioklpnmaa
open Go.RowKit Bs
/-- The router with a number, the first. -/
def capR (R : List Rt) (x : Int) : Bool := match R.find? (fun r => decide (r.id = x)) with
  | some r => r.cap
  | none => false
/-- The cost from one router to another, of the first link that joins them. -/
def priceB (a b : Int) (l : Lk) : Option Int := if l.a = a ∧ l.b = b then some l.ca else if l.b = a ∧ l.a = b then some l.cb else none
def priceV (L : List Lk) (a b : Int) : Int × Bool := match L.findSome? (priceB a b) with
  | some c => (c, true)
  | none => (0, false)
set_option maxRecDepth 100000 in
theorem ends_lt {R : List Rt} {L : List Lk} (ho : OkAll R L) : ∀ l ∈ L, l.a < l.b := by
  intro l hl
  have h := List.any_eq_false.1 ho.en l hl
  unfold wrEnd at h
  have h2 : ¬ l.b ≤ l.a := fun hc => h (decide_eq_true hc)
  omega
/-- The neighbours of a router, in the order of the routers. -/
def nearR (R : List Rt) (L : List Lk) (x : Int) : List Int := (R.filter fun r => (priceV L x r.id).2).map (·.id)
set_option maxRecDepth 100000 in
theorem eq_of_asc : ∀ {l m : List Int}, l.Pairwise (· < ·) → m.Pairwise (· < ·) → (∀ x, x ∈ l ↔ x ∈ m) → l = m
  | [], [], _, _, _ => rfl
  | [], b :: m, _, _, h => by have := (h b).2 (by simp); cases this
  | a :: l, [], _, _, h => by have := (h a).1 (by simp); cases this
  | a :: l, b :: m, hl, hm, h => by
    obtain ⟨h1, h2⟩ := List.pairwise_cons.1 hl
    obtain ⟨h3, h4⟩ := List.pairwise_cons.1 hm
    have e : a = b := by
      have ha := (h a).1 (by simp)
      have hb := (h b).2 (by simp)
      rcases List.mem_cons.1 ha with ha | ha
      · exact ha
      rcases List.mem_cons.1 hb with hb | hb
      · exact hb.symm
      have := h1 b hb
      have := h3 a ha
      omega
    subst e
    congr 1
    refine eq_of_asc h2 h4 fun x => ?_
    constructor
    · intro hx
      rcases List.mem_cons.1 ((h x).1 (List.mem_cons_of_mem _ hx)) with rfl | hx2
      · have := h1 x hx; omega
      · exact hx2
    · intro hx
      rcases List.mem_cons.1 ((h x).2 (List.mem_cons_of_mem _ hx)) with rfl | hx2
      · have := h3 x hx; omega
      · exact hx2
set_option maxRecDepth 100000 in
theorem nb1_mem (x y : Int) (l : Lk) : y ∈ nb1 x l ↔ (l.b = x ∧ y = l.a) ∨ (l.a = x ∧ y = l.b) := by
  unfold nb1
  rw [List.mem_append]
  by_cases h1 : l.b = x <;> by_cases h2 : l.a = x <;> simp [h1, h2]
set_option maxRecDepth 100000 in
theorem price_ok (L : List Lk) (x y : Int) : (priceV L x y).2 = true ↔ ∃ l ∈ L, (l.b = x ∧ y = l.a) ∨ (l.a = x ∧ y = l.b) := by
  unfold priceV
  cases hf : L.findSome? (priceB x y) with
  | none =>
    simp only
    constructor
    · intro h; cases h
    · rintro ⟨l, hl, h⟩
      have := List.findSome?_eq_none_iff.1 hf l hl
      unfold priceB at this
      by_cases k1 : l.a = x ∧ l.b = y
      · rw [if_pos k1] at this; cases this
      · rw [if_neg k1] at this
        by_cases k2 : l.b = x ∧ l.a = y
        · rw [if_pos k2] at this; cases this
        · omega
  | some c =>
    simp only
    refine ⟨fun _ => ?_, fun _ => by trivial⟩
    obtain ⟨m, hm, hmc⟩ := List.exists_of_findSome?_eq_some hf
    refine ⟨m, hm, ?_⟩
    unfold priceB at hmc
    by_cases k1 : m.a = x ∧ m.b = y
    · exact .inr ⟨k1.1, k1.2.symm⟩
    · rw [if_neg k1] at hmc
      by_cases k2 : m.b = x ∧ m.a = y
      · exact .inl ⟨k2.1, k2.2.symm⟩
      · rw [if_neg k2] at hmc; cases hmc
set_option maxRecDepth 100000 in
theorem near_eq {R : List Rt} {L : List Lk} (ho : OkAll R L) (x : Int) : nbL L x = nearR R L x := by
  have he := ends_lt ho
  have hp := pair_of_asc ltL (fun _ _ _ => ltL_trans) L ho.ls
  have hr := pair_of_asc ltR ltR_trans R ho.rs
  refine eq_of_asc ?_ ?_ fun y => ?_
  · unfold nbL
    rw [List.pairwise_flatMap]
    refine ⟨fun l hl => ?_, ?_⟩
    · have := he l hl
      unfold nb1
      by_cases h1 : l.b = x <;> by_cases h2 : l.a = x <;> simp [h1, h2]
      omega
    · refine List.Pairwise.imp_of_mem ?_ hp
      intro l m hl hm hlm u hu v hv
      have h1 := he l hl
      have h2 := he m hm
      unfold ltL at hlm
      have h3 := of_decide_eq_true hlm
      rcases (nb1_mem x u l).1 hu with hu | hu <;> rcases (nb1_mem x v m).1 hv with hv | hv <;> omega
  · unfold nearR
    rw [List.pairwise_map]
    exact (hr.sublist List.filter_sublist).imp (fun h => of_decide_eq_true h)
  · unfold nbL nearR
    rw [List.mem_flatMap, List.mem_map]
    constructor
    · rintro ⟨l, hl, hy⟩
      have hy := (nb1_mem x y l).1 hy
      have hk := List.any_eq_false.1 ho.un l hl
      unfold unk at hk
      have hak : hasR R l.a = true ∧ hasR R l.b = true := by
        cases e1 : hasR R l.a <;> cases e2 : hasR R l.b <;> rw [e1, e2] at hk <;> simp at hk ⊢
      have hyr : hasR R y = true := by
        rcases hy with hy | hy
        · rw [hy.2]; exact hak.1
        · rw [hy.2]; exact hak.2
      obtain ⟨r, hr2, hid⟩ := List.any_eq_true.1 hyr
      have hid := of_decide_eq_true hid
      refine ⟨r, List.mem_filter.2 ⟨hr2, ?_⟩, hid⟩
      rw [hid]
      exact (price_ok L x y).2 ⟨l, hl, hy⟩
    · rintro ⟨r, hr2, rfl⟩
      obtain ⟨l, hl, h⟩ := (price_ok L x r.id).1 (List.mem_filter.1 hr2).2
      exact ⟨l, hl, (nb1_mem x r.id l).2 h⟩
end Go.Proofs.Ytnpkihioklpnmaa

/- topology: routerAt, linkAt, Has, Capable, Cost, Neighbours. -/
namespace Go.Proofs.Ytnpkihioklpnmaa
open Go.RowKit Bs
/-- The results of Has, Capable, Cost, Neighbours. -/
def hasV (R : List Rt) (L : List Lk) (x : Int) : Bool := okT R L && hasR R x
def capV (R : List Rt) (L : List Lk) (x : Int) : Bool := okT R L && capR R x
set_option maxRecDepth 100000 in
theorem capR_has {R : List Rt} {x : Int} (h : hasR R x = false) : capR R x = false := by
  unfold capR
  cases hf : R.find? (fun r => decide (r.id = x)) with
  | none => rfl
  | some r =>
    have h2 := List.find?_some hf
    have : hasR R x = true := List.any_eq_true.2 ⟨r, List.mem_of_find?_eq_some hf, h2⟩
    rw [h] at this; cases this
set_option maxRecDepth 100000 in
theorem okT_all {R : List Rt} {L : List Lk} (h : okT R L = true) : OkAll R L := chk_okAll (by unfold okT at h; simpa using h)
end Go.Proofs.Ytnpkihioklpnmaa

/- Components: the routers that can be reached from each other (the mathematics). -/
namespace Go.Proofs.Ytnpkihioklpnmaa
open Go.RowKit Bs
set_option maxRecDepth 100000 in
theorem hasI_mem {S : List Int} {x : Int} : hasI S x = true ↔ x ∈ S := by
  unfold hasI
  rw [List.any_eq_true]
  constructor
  · rintro ⟨y, hy, e⟩
    rw [decide_eq_true_eq] at e
    exact e ▸ hy
  · intro h
    exact ⟨x, h, decide_eq_true rfl⟩
set_option maxRecDepth 100000 in
theorem hasI_not {S : List Int} {x : Int} : hasI S x = false ↔ x ∉ S := by
  rw [← hasI_mem]
  cases hasI S x <;> simp
/-- y lies in whatever holds x and is closed under links. -/
def Rch (L : List Lk) (x y : Int) : Prop := ∀ P : Int → Prop, P x → (∀ u v, P u → v ∈ nbL L u → P v) → P y
set_option maxRecDepth 100000 in
theorem Rch.refl (L : List Lk) (x : Int) : Rch L x x := fun _ h _ => h
set_option maxRecDepth 100000 in
theorem Rch.step {L : List Lk} {x y z : Int} (h : Rch L x y) (hz : z ∈ nbL L y) : Rch L x z := fun P hx hs => hs _ _ (h P hx hs) hz
set_option maxRecDepth 100000 in
theorem Rch.trans {L : List Lk} {x y z : Int} (h : Rch L x y) (k : Rch L y z) : Rch L x z := fun P hx hs => k P (h P hx hs) hs
set_option maxRecDepth 100000 in
theorem nb_symm {L : List Lk} {x y : Int} (h : y ∈ nbL L x) : x ∈ nbL L y := by
  unfold nbL at *
  obtain ⟨l, hl, h1⟩ := List.mem_flatMap.1 h
  refine List.mem_flatMap.2 ⟨l, hl, ?_⟩
  rw [nb1_mem] at h1 ⊢
  omega
set_option maxRecDepth 100000 in
theorem Rch.symm {L : List Lk} {x y : Int} (h : Rch L x y) : Rch L y x :=
  h (fun u => Rch L u x) (Rch.refl L x) (fun u _ hu hv => Rch.trans (Rch.step (Rch.refl L _) (nb_symm hv)) hu)
set_option maxRecDepth 100000 in
theorem Rch.into {L : List Lk} {x y : Int} {S : List Int} (h : Rch L x y) (hx : x ∈ S) (hc : ∀ u ∈ S, ∀ v ∈ nbL L u, v ∈ S) : y ∈ S := h (· ∈ S) hx (fun u v hu hv => hc u hu v hv)
set_option maxRecDepth 100000 in
theorem dfs_sound (L : List Lk) : ∀ (k : Nat) (r : Int) (S : List Int) (x : Int), x ∈ dfs L k r S → x ∈ S ∨ Rch L r x
  | 0, _, _, _, h => .inl h
  | k + 1, r, S, x, h => by
    have fold : ∀ (N T : List Int), (∀ n ∈ N, n ∈ nbL L r) → x ∈ N.foldl (dstep L k) T → x ∈ T ∨ Rch L r x := by
      intro N
      induction N with
      | nil => intro T _ h; exact .inl h
      | cons n N ih =>
        intro T hn h
        rw [List.foldl_cons] at h
        rcases ih _ (fun m hm => hn m (List.mem_cons_of_mem _ hm)) h with h | h
        · unfold dstep at h
          split at h
          · exact .inl h
          · rcases dfs_sound L k n T x h with h | h
            · exact .inl h
            · exact .inr (Rch.trans (Rch.step (Rch.refl L r) (hn n List.mem_cons_self)) h)
        · exact .inr h
    rw [dfs_succ] at h
    rcases fold _ _ (fun _ h => h) h with h | h
    · rcases List.mem_append.1 h with h | h
      · exact .inl h
      · rw [List.mem_singleton] at h
        subst h
        exact .inr (Rch.refl L _)
    · exact .inr h
set_option maxRecDepth 100000 in
theorem fold_sub (L : List Lk) (k : Nat) (N T : List Int) (x : Int) (h : x ∈ T) : x ∈ N.foldl (dstep L k) T := by
  obtain ⟨U, hU⟩ := fold_ext (dstep_ext L k (dfs_ext L k)) N T
  rw [hU]
  exact List.mem_append_left _ h
set_option maxRecDepth 100000 in
theorem dfs_closed (L : List Lk) (hL : ∀ x, ∀ y ∈ nbL L x, ∃ m : Nat, y = (m : Int) ∧ m < 100) : ∀ (k n : Nat) (S : List Int), n < 100 → hasI S (n : Int) = false → uns S ≤ k → (n : Int) ∈ dfs L k (n : Int) S ∧ ∀ x ∈ dfs L k (n : Int) S, x ∈ S ∨ ∀ y ∈ nbL L x, y ∈ dfs L k (n : Int) S
  | 0, n, S, hn, hs, hu => by
    have := uns_pos hn hs
    omega
  | k + 1, n, S, hn, hs, hu => by
    have fold : ∀ (N T : List Int), (∀ y ∈ N, ∃ m : Nat, y = (m : Int) ∧ m < 100) → uns T ≤ k → (∀ y ∈ N, y ∈ N.foldl (dstep L k) T) ∧ ∀ x ∈ N.foldl (dstep L k) T, x ∈ T ∨ ∀ y ∈ nbL L x, y ∈ N.foldl (dstep L k) T := by
      intro N
      induction N with
      | nil => intro T _ _; exact ⟨fun y h => (by cases h), fun x h => .inl h⟩
      | cons y N ih =>
        intro T hy hT
        rw [List.foldl_cons]
        have key : y ∈ dstep L k T y ∧ ∀ x ∈ dstep L k T y, x ∈ T ∨ ∀ z ∈ nbL L x, z ∈ dstep L k T y := by
          unfold dstep
          split
          · rename_i h
            exact ⟨hasI_mem.1 h, fun x hx => .inl hx⟩
          · rename_i h
            obtain ⟨m, rfl, hm⟩ := hy y List.mem_cons_self
            exact dfs_closed L hL k m T hm (by simpa using h) hT
        have hT2 : uns (dstep L k T y) ≤ k := by
          obtain ⟨U, hU⟩ := dstep_ext L k (dfs_ext L k) T y
          rw [hU]
          exact Nat.le_trans (uns_app T U) hT
        obtain ⟨i1, i2⟩ := ih (dstep L k T y) (fun z hz => hy z (List.mem_cons_of_mem _ hz)) hT2
        refine ⟨fun z hz => ?_, fun x hx => ?_⟩
        · rcases List.mem_cons.1 hz with rfl | hz
          · exact fold_sub L k N _ _ key.1
          · exact i1 z hz
        · rcases i2 x hx with h | h
          · rcases key.2 x h with h | h
            · exact .inl h
            · exact .inr (fun z hz => fold_sub L k N _ _ (h z hz))
          · exact .inr h
    rw [dfs_succ]
    have h1 := uns_snoc hn hs
    obtain ⟨f1, f2⟩ := fold (nbL L (n : Int)) (S ++ [(n : Int)]) (hL _) (by omega)
    refine ⟨fold_sub L k _ _ _ (by simp), fun x hx => ?_⟩
    rcases f2 x hx with h | h
    · rcases List.mem_append.1 h with h | h
      · exact .inl h
      · rw [List.mem_singleton] at h
        subst h
        exact .inr f1
    · exact .inr h
set_option maxRecDepth 100000 in
theorem nodup_snoc {S : List Int} {x : Int} (h : S.Nodup) (hx : x ∉ S) : (S ++ [x]).Nodup := by
  rw [List.nodup_append]
  refine ⟨h, by simp, fun a ha b hb e => ?_⟩
  rw [List.mem_singleton] at hb
  subst hb
  subst e
  exact hx ha
set_option maxRecDepth 100000 in
theorem dfs_nodup (L : List Lk) : ∀ (k : Nat) (r : Int) (S : List Int), hasI S r = false → S.Nodup → (dfs L k r S).Nodup
  | 0, _, _, _, h => h
  | k + 1, r, S, hr, h => by
    have fold : ∀ (N T : List Int), T.Nodup → (N.foldl (dstep L k) T).Nodup := by
      intro N
      induction N with
      | nil => intro T h; exact h
      | cons n N ih =>
        intro T h
        rw [List.foldl_cons]
        refine ih _ ?_
        unfold dstep
        split
        · exact h
        · rename_i hh
          exact dfs_nodup L k n T (by simpa using hh) h
    rw [dfs_succ]
    exact fold _ _ (nodup_snoc h (hasI_not.1 hr))
set_option maxRecDepth 100000 in
theorem srt_lt {U : List Int} (h : U.Nodup) : (srt U).Pairwise (· < ·) := by
  have h1 := srt_sorted U
  have h2 : (srt U).Nodup := (srt_perm U).nodup_iff.2 h
  refine List.Pairwise.imp₂ (fun a b (h1 : a ≤ b) (h2 : a ≠ b) => by omega) h1 h2
set_option maxRecDepth 100000 in
theorem srt_mem (U : List Int) (x : Int) : x ∈ srt U ↔ x ∈ U := (srt_perm U).mem_iff
set_option maxRecDepth 100000 in
/-- What a visit from r adds, where all that is visited before is closed: the routers that can be reached. -/
theorem visit {L : List Lk} (hL : ∀ x, ∀ y ∈ nbL L x, ∃ m : Nat, y = (m : Int) ∧ m < 100) {n : Nat} {S : List Int} (hn : n < 100) (hs : hasI S (n : Int) = false) (hS : S.Nodup) (hc : ∀ u ∈ S, ∀ v ∈ nbL L u, v ∈ S) :
    ∃ U, dfs L 100 (n : Int) S = S ++ U ∧ (S ++ U).Nodup ∧ (∀ y, y ∈ U ↔ Rch L (n : Int) y) ∧ ∀ u ∈ S ++ U, ∀ v ∈ nbL L u, v ∈ S ++ U := by
  obtain ⟨U, hU⟩ := dfs_ext L 100 (n : Int) S
  have hu : uns S ≤ 100 := by
    unfold uns
    have := List.countP_le_length (p := notS S) (l := List.range 100)
    simpa using this
  obtain ⟨h1, h2⟩ := dfs_closed L hL 100 n S hn hs hu
  have h3 := dfs_nodup L 100 (n : Int) S hs hS
  have h4 := dfs_sound L 100 (n : Int) S
  rw [hU] at h1 h2 h3 h4
  have hcl : ∀ u ∈ S ++ U, ∀ v ∈ nbL L u, v ∈ S ++ U := fun u hu v hv => by
    rcases h2 u hu with h | h
    · exact List.mem_append_left _ (hc u h v hv)
    · exact h v hv
  refine ⟨U, hU, h3, fun y => ⟨fun hy => ?_, fun hy => ?_⟩, hcl⟩
  · rcases h4 y (List.mem_append_right _ hy) with h | h
    · exact absurd rfl ((List.nodup_append.1 h3).2.2 y h y hy)
    · exact h
  · rcases List.mem_append.1 (hy.into h1 hcl) with h | h
    · exact absurd (hy.symm.into h hc) (hasI_not.1 hs)
    · exact h
/-- The routers that can be reached from r, ascending. -/
def cls (L : List Lk) (r : Int) : List Int := srt (dfs L 100 r [])
set_option maxRecDepth 100000 in
theorem cls_spec {L : List Lk} (hL : ∀ x, ∀ y ∈ nbL L x, ∃ m : Nat, y = (m : Int) ∧ m < 100) {n : Nat} (hn : n < 100) : (cls L (n : Int)).Pairwise (· < ·) ∧ ∀ y, y ∈ cls L (n : Int) ↔ Rch L (n : Int) y := by
  obtain ⟨U, h1, h2, h3, -⟩ := visit hL hn (S := []) rfl List.nodup_nil (fun u h => by cases h)
  rw [List.nil_append] at h1 h2
  unfold cls
  rw [h1]
  exact ⟨srt_lt h2, fun y => (srt_mem U y).trans (h3 y)⟩
/-- While the components are found: P: the routers gone through. -/
structure CI (R : List Rt) (L : List Lk) (P : List Rt) (Cs : List (List Int)) (S : List Int) : Prop where
  nd : S.Nodup
  cl : ∀ u ∈ S, ∀ v ∈ nbL L u, v ∈ S
  pm : Cs.flatten.Perm S
  each : ∀ C ∈ Cs, C.Pairwise (· < ·) ∧ (∀ x ∈ C, ∀ y, y ∈ C ↔ Rch L x y) ∧ ∃ r ∈ P, r.id ∈ C
  ids : ∀ x ∈ S, ∃ r ∈ R, r.id = x
  all : ∀ r ∈ P, r.id ∈ S
set_option maxRecDepth 100000 in
theorem CI.nil (R : List Rt) (L : List Lk) : CI R L [] [] [] := ⟨List.nodup_nil, (fun u h => by cases h), List.Perm.refl _, (fun C h => by cases h), (fun x h => by cases h), (fun r h => by cases h)⟩
set_option maxRecDepth 100000 in
theorem okT_near100 {R : List Rt} {L : List Lk} (h : okT R L = true) : ∀ x, ∀ y ∈ nbL L x, ∃ m : Nat, y = (m : Int) ∧ m < 100 := by
  intro x y hy
  obtain ⟨m, e, hm⟩ := okT_near h x y hy
  obtain ⟨h1, -⟩ := okT_ids h
  obtain ⟨r, hr, e2⟩ := List.mem_map.1 hm
  have := List.any_eq_false.1 h1 r hr
  unfold wrId at this
  have h3 : 1 ≤ r.id ∧ r.id ≤ 99 := by simpa using this
  exact ⟨m, e, by omega⟩
set_option maxRecDepth 100000 in
theorem rt_nat {R : List Rt} {L : List Lk} (h : okT R L = true) {r : Rt} (hr : r ∈ R) : ∃ n : Nat, r.id = (n : Int) ∧ n < 100 := by
  obtain ⟨h1, -⟩ := okT_ids h
  have := List.any_eq_false.1 h1 r hr
  unfold wrId at this
  have h3 : 1 ≤ r.id ∧ r.id ≤ 99 := by simpa using this
  exact ⟨r.id.toNat, by omega, by omega⟩
set_option maxRecDepth 100000 in
theorem reach_id {R : List Rt} {L : List Lk} (h : okT R L = true) {x y : Int} (hx : ∃ r ∈ R, r.id = x) (hy : Rch L x y) : ∃ r ∈ R, r.id = y := by
  refine hy (fun z => ∃ r ∈ R, r.id = z) hx (fun u v _ hv => ?_)
  obtain ⟨m, e, hm⟩ := okT_near h u v hv
  obtain ⟨r, hr, e2⟩ := List.mem_map.1 hm
  obtain ⟨n, e3, -⟩ := rt_nat h hr
  exact ⟨r, hr, by omega⟩
set_option maxRecDepth 100000 in
theorem CI.next {R P : List Rt} {L : List Lk} {Cs : List (List Int)} {S : List Int} {r : Rt} (hv : okT R L = true) (h : CI R L P Cs S) (hr : r ∈ R) :
    CI R L (P ++ [r]) (cstep L (Cs, S) r).1 (cstep L (Cs, S) r).2 ∧ (hasI S r.id = false → (cstep L (Cs, S) r).1 = Cs ++ [cls L r.id]) := by
  obtain ⟨n, en, hn⟩ := rt_nat hv hr
  have hL := okT_near100 hv
  unfold cstep
  simp only
  cases hs : hasI S r.id
  · rw [if_neg (by simp)]
    rw [en] at hs ⊢
    obtain ⟨U, h1, h2, h3, h4⟩ := visit hL hn hs h.nd h.cl
    obtain ⟨c1, c2⟩ := cls_spec hL hn
    simp only [h1, List.drop_left]
    obtain ⟨n1, n2, n3⟩ := List.nodup_append.1 h2
    have hsrt : srt U = cls L (n : Int) := eq_of_asc (srt_lt n2) c1 (fun x => (srt_mem U x).trans ((h3 x).trans (c2 x).symm))
    rw [hsrt]
    have hin : (n : Int) ∈ cls L (n : Int) := (c2 _).2 (Rch.refl L _)
    refine ⟨⟨h2, h4, ?_, ?_, ?_, ?_⟩, fun _ => rfl⟩
    · rw [List.flatten_append]
      refine h.pm.append ?_
      rw [← hsrt]
      simpa using srt_perm U
    · intro C hC
      rcases List.mem_append.1 hC with hC | hC
      · obtain ⟨e1, e2, r', e3, e4⟩ := h.each C hC
        exact ⟨e1, e2, r', List.mem_append_left _ e3, e4⟩
      · rw [List.mem_singleton] at hC
        subst hC
        refine ⟨c1, fun x hx y => ?_, r, by simp, by rw [en]; exact hin⟩
        rw [c2]
        have hx2 := (c2 x).1 hx
        exact ⟨fun hy => hx2.symm.trans hy, fun hy => hx2.trans hy⟩
    · intro x hx
      rcases List.mem_append.1 hx with hx | hx
      · exact h.ids x hx
      · exact reach_id hv ⟨r, hr, en⟩ ((h3 x).1 hx)
    · intro r' hr'
      rcases List.mem_append.1 hr' with hr' | hr'
      · exact List.mem_append_left _ (h.all r' hr')
      · rw [List.mem_singleton] at hr'
        subst hr'
        rw [en]
        exact List.mem_append_right _ ((h3 _).2 (Rch.refl L _))
  · rw [if_pos rfl]
    refine ⟨⟨h.nd, h.cl, h.pm, fun C hC => ?_, h.ids, fun r' hr' => ?_⟩, fun h => by cases h⟩
    · obtain ⟨e1, e2, r', e3, e4⟩ := h.each C hC
      exact ⟨e1, e2, r', List.mem_append_left _ e3, e4⟩
    · rcases List.mem_append.1 hr' with hr' | hr'
      · exact h.all r' hr'
      · rw [List.mem_singleton] at hr'
        subst hr'
        exact hasI_mem.1 hs
set_option maxRecDepth 100000 in
theorem CI.at1_ {R : List Rt} {L : List Lk} (hv : okT R L = true) : ∀ k, k ≤ R.length → CI R L (R.take k) (compsF L (R.take k)).1 (compsF L (R.take k)).2
  | 0, _ => CI.nil R L
  | k + 1, hk => by
    have ih := CI.at1_ hv k (by omega)
    obtain ⟨r, hr⟩ : ∃ r, R[k]? = some r := ⟨_, List.getElem?_eq_getElem (by omega)⟩
    rw [compsF_take hr, List.take_add_one, hr]
    exact (ih.next hv (List.mem_of_getElem? hr)).1
set_option maxRecDepth 100000 in
theorem CI.done {R : List Rt} {L : List Lk} (hv : okT R L = true) : CI R L R (comps R L) (compsF L R).2 := by
  have := CI.at1_ hv R.length (Nat.le_refl _)
  rw [List.take_length] at this
  unfold comps
  rw [if_pos hv]
  exact this
set_option maxRecDepth 100000 in
/-- Two routers are connected. -/
theorem conn_iff {R : List Rt} {L : List Lk} (hv : okT R L = true) (a b : Int) : conn R L a b = true ↔ (∃ r ∈ R, r.id = a) ∧ Rch L a b := by
  have h := CI.done hv
  unfold conn
  rw [List.any_eq_true]
  constructor
  · rintro ⟨C, hC, hb⟩
    unfold both at hb
    rw [Bool.and_eq_true, hasI_mem, hasI_mem] at hb
    refine ⟨h.ids a (h.pm.mem_iff.1 (List.mem_flatten.2 ⟨C, hC, hb.1⟩)), ?_⟩
    exact ((h.each C hC).2.1 a hb.1 b).1 hb.2
  · rintro ⟨⟨r, hr, rfl⟩, hab⟩
    obtain ⟨C, hC, hx⟩ := List.mem_flatten.1 (h.pm.mem_iff.2 (h.all r hr))
    refine ⟨C, hC, ?_⟩
    unfold both
    rw [Bool.and_eq_true, hasI_mem, hasI_mem]
    exact ⟨hx, ((h.each C hC).2.1 _ hx b).2 hab⟩
end Go.Proofs.Ytnpkihioklpnmaa

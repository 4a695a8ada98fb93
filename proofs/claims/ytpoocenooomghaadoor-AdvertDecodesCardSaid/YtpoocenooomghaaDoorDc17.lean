/- Parts of the proof, packed: AdFA, AdTapB, AdFoP. -/
import Derived.Test.YtpoocenooomghaaDoorDc11
import Derived.Test.YtpoocenooomghaaDoorDc12
import Derived.Test.YtpoocenooomghaaDoorDc2
import Derived.Deep.RegionHeld3
import Derived.Deep.CutBlock
import Derived.Deep.CutRange
import Derived.Test.YtpoocenooomghaaDoorDc14
import Derived.Test.YtpoocenooomghaaDoorDc16
import Derived.Test.YtpoocenooomghaaDoorDc15
/- advert: encodings of fields that only fit their widths. -/
namespace Go.Proofs.YtpoocenooomghaaDoor
open Go.RowKit Bs
/-- The fields fit their widths. -/
structure FA (A : Ad) : Prop where
  r : 0 ≤ A.r ∧ A.r < 128
  q : 0 ≤ A.q ∧ A.q < 1048576
  ll : A.L.length < 32
  cl : A.C.length < 16
  L : ∀ x ∈ A.L, (0 ≤ x.a ∧ x.a < 128) ∧ (0 ≤ x.b ∧ x.b < 1024) ∧ 0 ≤ x.c ∧ x.c < 1024
  C : ∀ x ∈ A.C, (0 ≤ x.a ∧ x.a < 8) ∧ (0 ≤ x.b ∧ x.b < 512) ∧ (x.c = 8 ∨ x.c = 16 ∨ x.c = 32 ∨ x.c = 64)
set_option maxRecDepth 100000 in
theorem fnc_nLk {A : Ad} (h : FA A) : nLk (encA A) = A.L.length := by
  unfold nLk
  refine fd_mid (nb A.r.toNat 7 ++ nb A.q.toNat 20 ++ nb A.cp.toNat 1) ((A.L.take A.L.length).flatMap encR ++ nb A.C.length 4 ++ (A.C.take A.C.length).flatMap encK ++ nb (ck (adB A)) 16) _ 5 28 ?_ ?_ ?_
  · rw [encA_al]
    refine congrArg pk ?_
    unfold alB
    generalize nb (ck (adB A)) 16 = T
    unfold adB cmB mdB lkB hdB
    simp only [List.append_assoc]
  · simp only [List.length_append, nb_len]
  · have := h.ll; omega
set_option maxRecDepth 100000 in
theorem fnc_aCm {A : Ad} (h : FA A) : aCm (encA A) = 33 + A.L.length * 27 := by unfold aCm; rw [fnc_nLk h]
set_option maxRecDepth 100000 in
theorem fnc_nCm {A : Ad} (h : FA A) : nCm (encA A) = A.C.length := by
  unfold nCm
  rw [fnc_aCm h]
  refine fd_mid (lkB A A.L.length) ((A.C.take A.C.length).flatMap encK ++ nb (ck (adB A)) 16) _ 4 _ ?_ ?_ ?_
  · rw [encA_al]
    refine congrArg pk ?_
    unfold alB
    generalize nb (ck (adB A)) 16 = T
    unfold adB cmB mdB
    simp only [List.append_assoc]
  · rw [lkB_len, List.take_length]
  · have := h.cl; omega
set_option maxRecDepth 100000 in
theorem fnc_eCm {A : Ad} (h : FA A) : eCm (encA A) = (adB A).length := by
  unfold eCm
  rw [fnc_aCm h, fnc_nCm h, adB_len]
  omega
set_option maxRecDepth 100000 in
theorem fnc_is {A : Ad} (h : FA A) : AdIs (encA A) A := by
  have e := encA_al A
  refine ⟨?_, ?_, ?_, ?_, ?_⟩
  · rw [fd_mid [] (nb A.q.toNat 20 ++ nb A.cp.toNat 1 ++ nb A.L.length 5 ++ (A.L.take A.L.length).flatMap encR ++ nb A.C.length 4 ++ (A.C.take A.C.length).flatMap encK ++ nb (ck (adB A)) 16) A.r.toNat 7 0 ?_ rfl (by have := h.r; omega), Int.toNat_of_nonneg (by have := h.r; omega)]
    rw [e]
    refine congrArg pk ?_
    unfold alB
    generalize nb (ck (adB A)) 16 = T
    unfold adB cmB mdB lkB hdB
    simp only [List.append_assoc, List.nil_append]
  · rw [fd_mid (nb A.r.toNat 7) (nb A.cp.toNat 1 ++ nb A.L.length 5 ++ (A.L.take A.L.length).flatMap encR ++ nb A.C.length 4 ++ (A.C.take A.C.length).flatMap encK ++ nb (ck (adB A)) 16) A.q.toNat 20 7 ?_ (by rw [nb_len]) (by have := h.q; omega), Int.toNat_of_nonneg (by have := h.q; omega)]
    rw [e]
    refine congrArg pk ?_
    unfold alB
    generalize nb (ck (adB A)) 16 = T
    unfold adB cmB mdB lkB hdB
    simp only [List.append_assoc]
  · rw [fd_mid (nb A.r.toNat 7 ++ nb A.q.toNat 20) (nb A.L.length 5 ++ (A.L.take A.L.length).flatMap encR ++ nb A.C.length 4 ++ (A.C.take A.C.length).flatMap encK ++ nb (ck (adB A)) 16) A.cp.toNat 1 27 ?_ (by simp only [List.length_append, nb_len]) (by cases A.cp <;> decide)]
    · cases A.cp <;> rfl
    rw [e]
    refine congrArg pk ?_
    unfold alB
    generalize nb (ck (adB A)) 16 = T
    unfold adB cmB mdB lkB hdB
    simp only [List.append_assoc]
  · rw [fnc_nLk h]
    refine List.ext_getElem? fun i => ?_
    rcases Nat.lt_or_ge i A.L.length with hi | hi
    · obtain ⟨x, hx⟩ : ∃ x, A.L[i]? = some x := ⟨_, List.getElem?_eq_getElem hi⟩
      obtain ⟨Q, hQ⟩ := alB_lk hx
      have hb := h.L x (List.mem_of_getElem? hx)
      have hlen : (lkB A i).length = 33 + i * 27 := by rw [lkB_len, List.length_take, Nat.min_eq_left (by omega)]
      unfold rdL
      rw [hx, List.getElem?_map, List.getElem?_range hi]
      show some x = some (⟨_, _, _⟩ : T3)
      rw [fd_mid (lkB A i) (nb x.b.toNat 10 ++ nb x.c.toNat 10 ++ Q) x.a.toNat 7 _ (by rw [e, hQ]; simp only [List.append_assoc]) hlen.symm (by omega),
        fd_mid (lkB A i ++ nb x.a.toNat 7) (nb x.c.toNat 10 ++ Q) x.b.toNat 10 _ (by rw [e, hQ]; simp only [List.append_assoc]) (by rw [List.length_append, hlen, nb_len]) (by omega),
        fd_mid (lkB A i ++ nb x.a.toNat 7 ++ nb x.b.toNat 10) Q x.c.toNat 10 _ (by rw [e, hQ]) (by rw [List.length_append, List.length_append, hlen, nb_len, nb_len]) (by omega),
        Int.toNat_of_nonneg (by omega), Int.toNat_of_nonneg (by omega), Int.toNat_of_nonneg (by omega)]
    · rw [List.getElem?_eq_none hi, List.getElem?_eq_none (by rw [rdL_len]; exact hi)]
  · rw [fnc_nCm h, fnc_aCm h]
    refine List.ext_getElem? fun i => ?_
    rcases Nat.lt_or_ge i A.C.length with hi | hi
    · obtain ⟨x, hx⟩ : ∃ x, A.C[i]? = some x := ⟨_, List.getElem?_eq_getElem hi⟩
      obtain ⟨Q, hQ⟩ := alB_cm hx
      have hb := h.C x (List.mem_of_getElem? hx)
      obtain ⟨k1, k2⟩ := code_bk hb.2.2
      have hlen : (cmB A i).length = 33 + A.L.length * 27 + 4 + i * 14 := by rw [cmB_len, List.length_take, Nat.min_eq_left (by omega)]; omega
      unfold rdC
      rw [hx, List.getElem?_map, List.getElem?_range hi]
      show some x = some (⟨_, _, _⟩ : T3)
      rw [fd_mid (cmB A i) (nb x.b.toNat 9 ++ nb (codeN x.c) 2 ++ Q) x.a.toNat 3 _ (by rw [e, hQ]; simp only [List.append_assoc]) hlen.symm (by omega),
        fd_mid (cmB A i ++ nb x.a.toNat 3) (nb (codeN x.c) 2 ++ Q) x.b.toNat 9 _ (by rw [e, hQ]; simp only [List.append_assoc]) (by rw [List.length_append, hlen, nb_len]) (by omega),
        fd_mid (cmB A i ++ nb x.a.toNat 3 ++ nb x.b.toNat 9) Q (codeN x.c) 2 _ (by rw [e, hQ]) (by rw [List.length_append, List.length_append, hlen, nb_len, nb_len]) (by omega),
        Int.toNat_of_nonneg (by omega), Int.toNat_of_nonneg (by omega), k1]
    · rw [List.getElem?_eq_none hi, List.getElem?_eq_none (by rw [rdC_len]; exact hi)]
set_option maxRecDepth 100000 in
/-- An encoding has no error. -/
theorem fnc_decE {A : Ad} (h : FA A) (v : Bool) : decE (encA A) v = if v = false then 1 else 0 := by
  have hE := fnc_eCm h
  have hlen := enc_len2 A
  have hal : (alB A).length = (adB A).length + 16 := by unfold alB; rw [List.length_append, nb_len]
  unfold decE
  rw [hE, if_neg (by omega), if_neg, if_neg, if_neg (by omega)]
  · intro hne
    refine hne ?_
    have hx : 0 = num (bt (encA A)) ((adB A).length + 16) ((8 - ((adB A).length + 16) % 8) % 8) := by
      refine num_eq (Nat.two_pow_pos _) fun t ht => ?_
      rw [Nat.zero_testBit, encA_al, bt_pk _ _ (by rw [hal]; omega)]
      exact (bf_out _ _ (by rw [hal]; omega)).symm
    exact hx.symm
  · intro hne
    refine hne ?_
    rw [anum_pk (encA_al A) (by rw [hlen]; omega)]
    have h2 := anum_mid (adB A) [] (ck (adB A)) 16 (chk_lt _ _)
    rw [List.append_nil] at h2
    show num (bf (adB A ++ nb (ck (adB A)) 16)) (adB A).length 16 = _
    rw [h2]
    unfold ck
    refine chk_same _ fun i hi => ?_
    rw [encA_al, bt_pk _ _ (by rw [hal]; omega)]
    unfold alB
    rw [bf_left _ _ _ hi]
end Go.Proofs.YtpoocenooomghaaDoor

/- While the tape makes an advert. -/
namespace Go.Proofs.YtpoocenooomghaaDoor
open Go.RowKit Bs
/-! What a list of the tape's keeps. -/
def GL (r b : Int) (L : List T3) : Prop := vRe r 0 L = true ∧ ∀ x ∈ L, x.a < b
def GC (b : Int) (C : List T3) : Prop := vCm (-1) C = true ∧ ∀ x ∈ C, x.a < b
set_option maxRecDepth 100000 in
theorem vRe_snoc {r : Int} {y : T3} (hy : y.a ≤ 99 ∧ y.a ≠ r ∧ (1 ≤ y.b ∧ y.b ≤ 1000) ∧ 0 ≤ y.c ∧ y.c ≤ 1000) : ∀ {L : List T3} {d : Int}, vRe r d L = true → (∀ x ∈ L, x.a < y.a) → d < y.a → vRe r d (L ++ [y]) = true
  | [], d, _, _, hd => by
    rw [List.nil_append, vRe, vRe, Bool.and_true]
    exact decide_eq_true ⟨hd, hy⟩
  | x :: t, d, h, hx, hd => by
    rw [List.cons_append, vRe, Bool.and_eq_true]
    rw [vRe, Bool.and_eq_true] at h
    exact ⟨h.1, vRe_snoc hy h.2 (fun z hz => hx z (List.mem_cons_of_mem _ hz)) (hx x List.mem_cons_self)⟩
set_option maxRecDepth 100000 in
theorem vCm_snoc {y : T3} (hy : y.a ≤ 7 ∧ (1 ≤ y.b ∧ y.b ≤ 256) ∧ (y.c = 8 ∨ y.c = 16 ∨ y.c = 32 ∨ y.c = 64)) : ∀ {L : List T3} {d : Int}, vCm d L = true → (∀ x ∈ L, x.a < y.a) → d < y.a → vCm d (L ++ [y]) = true
  | [], d, _, _, hd => by
    rw [List.nil_append, vCm, vCm, Bool.and_true]
    exact decide_eq_true ⟨hd, hy⟩
  | x :: t, d, h, hx, hd => by
    rw [List.cons_append, vCm, Bool.and_eq_true]
    rw [vCm, Bool.and_eq_true] at h
    exact ⟨h.1, vCm_snoc hy h.2 (fun z hz => hx z (List.mem_cons_of_mem _ hz)) (hx x List.mem_cons_self)⟩
set_option maxRecDepth 100000 in
theorem GL.nil (r b : Int) : GL r b [] := ⟨rfl, fun _ h => by cases h⟩
set_option maxRecDepth 100000 in
theorem GC.nil (b : Int) : GC b [] := ⟨rfl, fun _ h => by cases h⟩
set_option maxRecDepth 100000 in
theorem GL.next {r b : Int} {L : List T3} (h : GL r b L) : GL r (b + 1) L := ⟨h.1, fun x hx => by have := h.2 x hx; omega⟩
set_option maxRecDepth 100000 in
theorem GC.next {b : Int} {L : List T3} (h : GC b L) : GC (b + 1) L := ⟨h.1, fun x hx => by have := h.2 x hx; omega⟩
set_option maxRecDepth 100000 in
theorem GL.add {r b : Int} {L : List T3} (h : GL r b L) (y2 y3 : Int) (hb : 0 < b ∧ b ≤ 99) (hr : b ≠ r) (h2 : 1 ≤ y2 ∧ y2 ≤ 1000) (h3 : 0 ≤ y3 ∧ y3 ≤ 1000) : GL r (b + 1) (L ++ [⟨b, y2, y3⟩]) := by
  refine ⟨vRe_snoc ⟨hb.2, hr, h2, h3⟩ h.1 h.2 hb.1, fun x hx => ?_⟩
  rcases List.mem_append.1 hx with hx | hx
  · have := h.2 x hx; omega
  · rw [List.mem_singleton] at hx
    subst hx
    simp only
    omega
set_option maxRecDepth 100000 in
theorem GC.add {b : Int} {L : List T3} (h : GC b L) (y2 y3 : Int) (hb : -1 < b ∧ b ≤ 7) (h2 : 1 ≤ y2 ∧ y2 ≤ 256) (h3 : y3 = 8 ∨ y3 = 16 ∨ y3 = 32 ∨ y3 = 64) : GC (b + 1) (L ++ [⟨b, y2, y3⟩]) := by
  refine ⟨vCm_snoc ⟨hb.2, h2, h3⟩ h.1 h.2 hb.1, fun x hx => ?_⟩
  rcases List.mem_append.1 hx with hx | hx
  · have := h.2 x hx; omega
  · rw [List.mem_singleton] at hx
    subst hx
    simp only
    omega
/-- While the tape makes an advert. -/
structure AT (a : Nat) (W : World) (Z B : Nat) (r q : Int) (cp : Bool) (uL uC vL vC : Value) (L C : List T3) (w : World) : Prop where
  g : AG W Z B r q cp uL uC vL vC L C w
  st : St a W w
set_option maxRecDepth 100000 in
theorem St.newA {a b : Nat} {W w w1 : World} (h : St a W w) (g : w.grownBy w1 (some b)) (hb : W.heap.size ≤ b) (ha : a < W.heap.size) : St a W w1 := by
  refine ⟨⟨g.os.trans h.1.os, g.tape.trans h.1.tape, g.output.trans h.1.output, Nat.le_trans h.1.size g.size, fun i hi hia => (g.block i (Nat.lt_of_lt_of_le hi h.1.size) (fun e => by have := Option.some.inj e; omega)).trans (h.1.block i hi hia)⟩, ?_⟩
  obtain ⟨v, n, i, T⟩ := h.2
  have hlt : a < w.heap.size := Nat.lt_of_lt_of_le ha h.1.size
  have hk : w1.heap[a]? = w.heap[a]? := g.block a hlt (fun e => by have := Option.some.inj e; omega)
  refine ⟨v, n, i, (World.cell?_of_block (a := ⟨a, 0, none⟩) hk).trans T.l, (World.cell?_of_block (a := ⟨a, 1, none⟩) hk).trans T.p, (World.frozen?_of_block (a := ⟨a, 1, none⟩) hk).trans T.fr, ?_, T.le, T.len⟩
  obtain ⟨p, c, hv, hc⟩ := T.ints
  refine ⟨p, c, hv, fun hn => ?_⟩
  obtain ⟨b1, off, hp, hb1, hx⟩ := hc hn
  refine ⟨b1, off, hp, hb1, fun i hi => ?_⟩
  obtain ⟨x, hx1, hcell⟩ := hx i hi
  exact ⟨x, hx1, g.cell hcell (fun e => by have : b1 = b := Option.some.inj e; omega)⟩
section
variable {a : Nat} {W w w1 : World} {Z B : Nat} {r q : Int} {cp : Bool} {uL uC vL vC v' : Value} {L C : List T3}
set_option maxRecDepth 100000 in
theorem AT.keep (h : AT a W Z B r q cp uL uC vL vC L C w) (g : w.grownBy w1 none) : AT a W Z B r q cp uL uC vL vC L C w1 := ⟨h.g.keep g, h.st.trans ⟨grown_none g _, h.st.2.keep g⟩⟩
set_option maxRecDepth 100000 in
theorem AT.tape (h : AT a W Z B r q cp uL uC vL vC L C w) (ha : a < W.heap.size) (k : St a w w1) : AT a W Z B r q cp uL uC vL vC L C w1 := ⟨h.g.out k.1 ha, h.st.trans k⟩
set_option maxRecDepth 100000 in
theorem AT.stRow (h : AT a W Z B r q cp uL uC vL vC L C w) (ha : a < W.heap.size) {o : Option Nat} (g : w.grownBy w1 o) (hb : ∀ b, o = some b → W.heap.size ≤ b) : St a W w1 := by
  cases o with
  | none => exact h.st.trans ⟨grown_none g _, h.st.2.keep g⟩
  | some b => exact h.st.newA g (hb b rfl) ha
set_option maxRecDepth 100000 in
theorem AT.addL (h : AT a W Z B r q cp uL uC vL vC L C w) (ha : a < W.heap.size) {M : List T3} (hown : w1.ownsRow (B + 1) 70 3 v' M.length (M.flatMap t3C)) (hg : w.grownBy w1 vL.ownBlock) (hat : v'.ownBlock = vL.ownBlock ∨ v'.ownBlock = some w.heap.size) : AT a W Z B r q cp uL uC v' vC M C w1 :=
  ⟨h.g.addL hown hg hat, h.stRow ha hg (fun b hb => by have := h.g.geL b hb; have := h.g.lo; omega)⟩
set_option maxRecDepth 100000 in
theorem AT.addC (h : AT a W Z B r q cp uL uC vL vC L C w) (ha : a < W.heap.size) {M : List T3} (hown : w1.ownsRow (B + 1) 73 3 v' M.length (M.flatMap t3C)) (hg : w.grownBy w1 vC.ownBlock) (hat : v'.ownBlock = vC.ownBlock ∨ v'.ownBlock = some w.heap.size) : AT a W Z B r q cp uL uC vL v' L M w1 :=
  ⟨h.g.addC hown hg hat, h.stRow ha hg (fun b hb => by have := h.g.geC b hb; have := h.g.lo; omega)⟩
set_option maxRecDepth 100000 in
theorem AT.putL (h : AT a W Z B r q cp uL uC vL vC L C w) (ha : a < W.heap.size) : AT a W Z B r q cp vL uC vL vC L C (w.setCell ⟨B, 3, none⟩ vL) :=
  ⟨h.g.putL, h.st.newA (grown_setCell w ⟨B, 3, none⟩ vL) (by have := h.g.lo; show W.heap.size ≤ B; omega) ha⟩
set_option maxRecDepth 100000 in
theorem AT.putC (h : AT a W Z B r q cp uL uC vL vC L C w) (ha : a < W.heap.size) : AT a W Z B r q cp uL vC vL vC L C (w.setCell ⟨B, 4, none⟩ vC) :=
  ⟨h.g.putC, h.st.newA (grown_setCell w ⟨B, 4, none⟩ vC) (by have := h.g.lo; show W.heap.size ≤ B; omega) ha⟩
set_option maxRecDepth 100000 in
theorem AG.put0 (h : AG W Z B r q cp uL uC vL vC L C w) (x : Int) : AG W Z B x q cp uL uC vL vC L C (w.setCell ⟨B, 0, none⟩ (.int .i64 x)) := by
  have g := grown_setCell w ⟨B, 0, none⟩ (.int .i64 x)
  have hlo := h.lo
  refine ⟨kept_row h.zb g (fun e => by have : Z = B := Option.some.inj e; omega), ?_, own_otherA h.oL g (Nat.lt_succ_self _), own_otherA h.oC g (Nat.lt_succ_self _), h.ap, h.lo, Nat.lt_of_lt_of_le h.sz g.size⟩
  have h1 := heap_setCell_same w B 0 _ _ (.int .i64 x) h.ab
  rw [h1]; rfl
set_option maxRecDepth 100000 in
theorem AG.put1 (h : AG W Z B r q cp uL uC vL vC L C w) (x : Int) : AG W Z B r x cp uL uC vL vC L C (w.setCell ⟨B, 1, none⟩ (.int .i64 x)) := by
  have g := grown_setCell w ⟨B, 1, none⟩ (.int .i64 x)
  have hlo := h.lo
  refine ⟨kept_row h.zb g (fun e => by have : Z = B := Option.some.inj e; omega), ?_, own_otherA h.oL g (Nat.lt_succ_self _), own_otherA h.oC g (Nat.lt_succ_self _), h.ap, h.lo, Nat.lt_of_lt_of_le h.sz g.size⟩
  have h1 := heap_setCell_same w B 1 _ _ (.int .i64 x) h.ab
  rw [h1]; rfl
set_option maxRecDepth 100000 in
theorem AT.put0 (h : AT a W Z B r q cp uL uC vL vC L C w) (ha : a < W.heap.size) (x : Int) : AT a W Z B x q cp uL uC vL vC L C (w.setCell ⟨B, 0, none⟩ (.int .i64 x)) :=
  ⟨h.g.put0 x, h.st.newA (grown_setCell w ⟨B, 0, none⟩ (.int .i64 x)) (by have := h.g.lo; show W.heap.size ≤ B; omega) ha⟩
set_option maxRecDepth 100000 in
theorem AT.put1 (h : AT a W Z B r q cp uL uC vL vC L C w) (ha : a < W.heap.size) (x : Int) : AT a W Z B r x cp uL uC vL vC L C (w.setCell ⟨B, 1, none⟩ (.int .i64 x)) :=
  ⟨h.g.put1 x, h.st.newA (grown_setCell w ⟨B, 1, none⟩ (.int .i64 x)) (by have := h.g.lo; show W.heap.size ≤ B; omega) ha⟩
end
set_option maxRecDepth 100000 in
theorem own_formA {w : World} {base size n : Nat} {e : TypeId} {v : Value} {xs : List Value} (h : w.ownsRow base e size v n xs) : (v = .slice none 0 0 ∧ n = 0) ∨ ∃ g cap, v = .slice (some ⟨g, 0, none⟩) n cap ∧ n ≤ cap ∧ cap ≤ 9223372036854775807 := by
  rcases h.2 with ⟨rfl, h0⟩ | ⟨g, cap, cur, rfl, _, _, hn, hm, _⟩
  · exact .inl ⟨rfl, h0⟩
  · unfold maxLen at hm
    exact .inr ⟨g, cap, rfl, hn, by omega⟩
set_option maxRecDepth 100000 in
theorem AG.set0 {W w : World} {Z B g n cap : Nat} {r q : Int} {cp : Bool} {uL uC vC : Value} {L C : List T3} (h : AG W Z B r q cp uL uC (.slice (some ⟨g, 0, none⟩) n cap) vC L C w) (hL : 0 < L.length) (x : Int) :
    ∃ L' : List T3, L'.length = L.length ∧ AG W Z B r q cp uL uC (.slice (some ⟨g, 0, none⟩) n cap) vC L' C (w.setCell ⟨g, 1, none⟩ (.int .i64 x)) := by
  cases L with
  | nil => cases hL
  | cons y t =>
    have hg0 := h.geL g rfl
    have hlo := h.lo
    obtain ⟨p, c, e, _⟩ := own_shape h.oL
    have hn : n = (y :: t).length := by injection e
    subst hn
    obtain ⟨s1, s2⟩ := h.oL.stored 1 (.int .i64 x)
    refine ⟨⟨y.a, x, y.c⟩ :: t, rfl, kept_row h.zb s2 (fun e => by have : Z = g := Option.some.inj e; omega), kept_row h.ab s2 (fun e => by have : B = g := Option.some.inj e; omega), s1, h.oC.kept s2 ?_, h.ap, h.lo, Nat.lt_of_lt_of_le h.sz s2.size⟩
    cases hv : vC.ownBlock with
    | none => exact .inl rfl
    | some k => exact .inr (fun e => h.ap g rfl (by rw [hv]; exact e))
set_option maxRecDepth 100000 in
theorem AT.set0 {a : Nat} {W w : World} {Z B g n cap : Nat} {r q : Int} {cp : Bool} {uL uC vC : Value} {L C : List T3} (h : AT a W Z B r q cp uL uC (.slice (some ⟨g, 0, none⟩) n cap) vC L C w) (ha : a < W.heap.size) (hL : 0 < L.length) (x : Int) :
    ∃ L' : List T3, L'.length = L.length ∧ AT a W Z B r q cp uL uC (.slice (some ⟨g, 0, none⟩) n cap) vC L' C (w.setCell ⟨g, 1, none⟩ (.int .i64 x)) := by
  obtain ⟨L', h1, h2⟩ := h.g.set0 hL x
  have hg0 := h.g.geL g rfl
  have hlo := h.g.lo
  exact ⟨L', h1, h2, h.st.newA (grown_setCell w ⟨g, 1, none⟩ (.int .i64 x)) (by show W.heap.size ≤ g; omega) ha⟩
set_option maxRecDepth 100000 in
theorem AT.ints {a : Nat} {W w : World} {Z B : Nat} {r q : Int} {cp : Bool} {uL uC vL vC : Value} {L C : List T3} (h : AT a W Z B r q cp uL uC vL vC L C w) (xs : List Int) (cs : Array Value) (hx : ∀ x ∈ xs, I64 x) (hcs : cs = (xs.map fun x => Value.int .i64 x).toArray) :
    ∀ p, p = w.heap.size → Among I64 (w.alloc (.cells cs 3)) a p 0 cs.size := by
  rintro p rfl
  exact among_list I64 w a xs cs 3 h.st.2.lt hcs hx
set_option maxRecDepth 100000 in
theorem Among.keepA {P : Int → Prop} {w w' : World} {a b off n : Nat} {r : Option Nat} (h : Among P w a b off n) (g : w.grownBy w' r) (hne : some b ≠ r) : Among P w' a b off n :=
  ⟨h.1, Nat.lt_of_lt_of_le h.2.1 g.size, fun i hi => by obtain ⟨x, hx, hc⟩ := h.2.2 i hi; exact ⟨x, hx, g.cell hc (by exact hne)⟩⟩
/-- What is known of an advert of the tape's. -/
structure TA (R n : Int) (r q : Int) (L C : List T3) : Prop where
  ll : L.length ≤ 40
  cl : C.length ≤ 10
  ok : ¬ 0 < n → r = R ∧ (1 ≤ q ∧ q ≤ 1000000) ∧ L.length ≤ 23 ∧ C.length ≤ 8 ∧ vRe R 0 L = true ∧ vCm (-1) C = true
def TAPost (a : Nat) (R n : Int) (w : World) (e : Ending) (w' : World) : Prop :=
  ∃ A : Ad, e = .returned A.val ∧ TA R n A.r A.q A.L A.C ∧ AdOk w' (w.heap.size ≤ ·) A ∧ St a w w'
/-- The same; a list of claims that is nil has no room. -/
def TAPost2 (a : Nat) (R n : Int) (w : World) (e : Ending) (w' : World) : Prop :=
  ∃ A : Ad, e = .returned A.val ∧ TA R n A.r A.q A.L A.C ∧ AdOk w' (w.heap.size ≤ ·) A ∧ St a w w' ∧ (A.pC = none → A.cC = 0)
set_option maxRecDepth 100000 in
theorem TAPost2.less {a : Nat} {R n : Int} {w : World} {e : Ending} {w' : World} (h : TAPost2 a R n w e w') : TAPost a R n w e w' := by
  obtain ⟨A, h1, h2, h3, h4, -⟩ := h
  exact ⟨A, h1, h2, h3, h4⟩
set_option maxRecDepth 100000 in
theorem own_nilc {w : World} {base size n c : Nat} {p : Option Addr} {e : TypeId} {xs : List Value} (h : w.ownsRow base e size (.slice p n c) n xs) (hp : p = none) : c = 0 := by
  subst hp
  rcases h.2 with ⟨e, _⟩ | ⟨g', cap', cur, hv, _⟩
  · injection e
  · cases hv
set_option maxRecDepth 100000 in
theorem TA.valid {R n : Int} {A : Ad} (h : TA R n A.r A.q A.L A.C) (hn : ¬ 0 < n) (hR : 1 ≤ R ∧ R ≤ 99) : vAd A = true ∧ A.r = R := by
  obtain ⟨h1, h2, h3, h4, h5, h6⟩ := h.ok hn
  refine ⟨?_, h1⟩
  unfold vAd vHd vClaims
  rw [decide_eq_true ⟨h1 ▸ hR, h2, h3⟩, h1, h5, decide_eq_true h4, h6]
  rfl
end Go.Proofs.YtpoocenooomghaaDoor

/- The laws' put: streams behind the tape. -/
namespace Go.Proofs.YtpoocenooomghaaDoor
open Go.RowKit Bs
/-- Bytes behind block a. -/
structure BF (a : Nat) (B : List Bool) (p : Option Addr) (c : Nat) (w : World) : Prop where
  rd : Rd w (a < ·) (.slice p (pk B).length c) ((pk B).map nv)
  pc : p = none → c = 0
set_option maxRecDepth 100000 in
theorem BF.keep {a : Nat} {B : List Bool} {p : Option Addr} {c : Nat} {w w1 : World} (h : BF a B p c w) (g : w.grownBy w1 none) : BF a B p c w1 := ⟨h.rd.grown g (fun _ _ => by simp), h.pc⟩
set_option maxRecDepth 100000 in
theorem BF.tape {a : Nat} {B : List Bool} {p : Option Addr} {c : Nat} {w w1 : World} (h : BF a B p c w) (k : St a w w1) : BF a B p c w1 := ⟨h.rd.grown k.1 (fun b hb e => by have := Option.some.inj e; omega), h.pc⟩
set_option maxRecDepth 100000 in
theorem rd_off2 {w : World} {q : Nat → Prop} {v : Value} {p1 : Option Addr} {n1 c1 S : Nat} {l : List Nat} {k : Int} {t : TypeId} (hR : Rd w q v (l.map nv)) (hS : w.heap[S]? = some (.cells #[.slice p1 n1 c1, .int .i64 k] t (0, 0))) : Rd w (fun b => q b ∧ b ≠ S) v (l.map nv) := by
  obtain ⟨p, c, hv, hc⟩ := hR
  refine ⟨p, c, hv, fun hne => ?_⟩
  obtain ⟨b, off, hp, hb, hx⟩ := hc hne
  refine ⟨b, off, hp, ⟨hb, ?_⟩, hx⟩
  rintro rfl
  cases l with
  | nil => exact absurd rfl hne
  | cons y r =>
    have h := hx 0 (nv y) rfl
    unfold World.cell? at h
    rw [hS] at h
    simp only [Addr.spot] at h
    rcases (show off + 0 = 0 ∨ off + 0 = 1 ∨ 2 ≤ off + 0 by omega) with e | e | e
    · rw [e] at h; simp [nv] at h
    · rw [e] at h; simp [nv] at h
    · rw [Array.getElem?_eq_none (by simpa using e)] at h; simp at h
set_option maxRecDepth 100000 in
set_option maxHeartbeats 3200000 in
theorem lput_any (B : List Bool) (n : Int) (k : Nat) (p : Option Addr) (c : Nat) (q : Nat → Prop) (w : World) (h0 : 0 ≤ n) (hn : n.toNat < 2 ^ k) (hk1 : 1 ≤ k) (hk : k ≤ 20) (hl : B.length + k ≤ 8192) (hpc : p = none → c = 0) (hR : Rd w q (.slice p (pk B).length c) ((pk B).map nv)) :
    Calls Tryd.prog 24 #[.agg #[.slice p (pk B).length c, .int .i64 (B.length : Int)], .int .i64 n, .int .i64 (k : Int)] w fun e w' => SPO (B ++ nb n.toNat k) w e w' := by
  obtain ⟨m, rfl⟩ := Int.eq_ofNat_of_zero_le h0
  rw [Int.toNat_natCast] at hn ⊢
  obtain ⟨k1, k2, k3, k4⟩ := two_boxes w #[.slice p (pk B).length c, .int .i64 (B.length : Int)] #[.slice none 0 0, .int .i64 0] 47 47
  have hm20 : m < 1048576 := Nat.lt_of_lt_of_le hn (Nat.pow_le_pow_right (n := 2) (by decide) hk)
  have HX : Hid (IntKind.u64.wrap (m : Int) = (m : Int)) := Lib.hid (by rw [IntKind.wrap_u64]; omega)
  have hA := appendo_any (pk B) B.length m k _ p c (pk_by B) (by unfold U64; omega) hpc (pk_vs B (by omega)) hk1 (by omega) (Nat.not_le.2 hn) (by omega) _ (fun _ h => h) (hR.keep k3).bound
  rw [apV_pk B m k (by omega) hn hl] at hA
  have HA := Lib.hid hA
  have H0 := Lib.hid (And.intro k1 (And.intro k2 (And.intro k3 k4)))
  clear k1 k2 k3 k4 hR hpc hn h0 hA
  obtain ⟨B2, hB2⟩ : ∃ B2, B ++ nb m k = B2 := ⟨_, rfl⟩
  rw [hB2] at HA ⊢
  clear hB2
  go_enter Tryd.func24, Tryd.ntmps24
  go_upto_region 1 with fail
  generalize ((w.alloc _).alloc _) = wa at *
  obtain ⟨c0, c1⟩ := row_cells H0.out.1
  go_wp2_with fail
  refine HA.out.mono ?_
  rintro e w1 ⟨p2, c2, rfl, hO, hg⟩
  have HO := Lib.hid hO
  have hk1 := World.grownBy_alloc w1 (.cells #[.slice p2 (pk B2).length c2, .int .i64 (B2.length : Int)] 47) none
  have hsz := (grown_trans H0.out.2.2.1 hg).size
  have hsa := H0.out.2.2.1.size
  have H1 := Lib.hid (And.intro (kept_row H0.out.2.1 (grown_trans hg hk1) (by simp)) (And.intro (heap_alloc_new w1 (.cells #[.slice p2 (pk B2).length c2, .int .i64 (B2.length : Int)] 47)) (And.intro hk1 (And.intro trivial (grown_trans H0.out.2.2.1 (grown_trans hg hk1))))))
  have hwa : w.heap.size + 2 = wa.heap.size := H0.out.2.2.2.symm
  clear hg hk1 H0 HA c0 c1 hO hsz hsa
  go_upto_region 2 with fail
  generalize w1.alloc _ = w2 at *
  generalize w1.heap.size = T at *
  obtain ⟨c0, c1⟩ := row_cells H1.out.2.1
  obtain ⟨r0, r1⟩ := row_cells H1.out.1
  have f0 := frozen_of_row _ _ 0 _ _ H1.out.1
  have f1 := frozen_of_row _ _ 1 _ _ H1.out.1
  obtain ⟨t1, t2⟩ := store2c (.slice p2 (pk B2).length c2) (.int .i64 (B2.length : Int)) H1.out.1
  have HT := Lib.hid (And.intro t1 (And.intro (show World.ownsRow _ w.heap.size 5 1 (.slice p2 (pk B2).length c2) (pk B2).length ((pk B2).map nv) from (own_otherA (base := wa.heap.size + 2) (HO.out.own.kept H1.out.2.2.1 (by cases (Value.slice p2 (pk B2).length c2).ownBlock <;> simp)) t2 (by omega)).mono (by omega)) (grown_new H1.out.2.2.2.2 t2 (by omega))))
  clear t1 t2 H1
  go_wp2_with fail
  refine bodyPost_ret (res_strm rfl _ _ (w.heap.size + 1) _ _ rfl HT.out.1) rfl ?_
  exact ⟨p2, c2, rfl, ⟨HT.out.2.1, HO.out.pc, HO.out.by_⟩, HT.out.2.2⟩
set_option maxRecDepth 100000 in
/-- A put behind block a. -/
theorem lput_next {B B2 : List Bool} (a : Nat) (n : Int) (k : Nat) (h : B2 = B ++ nb n.toNat k) (h0 : 0 ≤ n) (hn : n.toNat < 2 ^ k) (hk1 : 1 ≤ k) (hk : k ≤ 20) (hl : B.length + k ≤ 8192) {wz : World} {p : Option Addr} {c : Nat} (ha : a < wz.heap.size) (hb : BF a B p c wz) :
    Calls Tryd.prog 24 #[.agg #[.slice p (pk B).length c, .int .i64 (B.length : Int)], .int .i64 n, .int .i64 (k : Int)] wz fun e w' => ∃ p c, e = .returned (.agg #[.slice p (pk B2).length c, .int .i64 (B2.length : Int)]) ∧ BF a B2 p c w' ∧ wz.grownBy w' none := by
  rw [h]
  refine (lput_any B n k p c _ wz h0 hn hk1 hk hl hb.pc hb.rd).mono ?_
  rintro e w' ⟨p2, c2, he, h1, h3⟩
  exact ⟨p2, c2, he, ⟨(own_rdA h1).mono fun b hb => Nat.lt_of_lt_of_le ha hb, h1.pc⟩, h3⟩
end Go.Proofs.YtpoocenooomghaaDoor

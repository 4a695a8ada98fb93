/- Parts of the proof, packed: AdOrd, AdOrd2, AdDecM, AdGrow. -/
import Derived.Test.YtpoocenooomghaaDoorOf12
import Derived.Test.YtpoocenooomghaaDoorOf10
import Derived.Test.YtpoocenooomghaaDoorOf7
import Derived.Laws.OwnMore
/- advert: the order is total. -/
namespace Go.Proofs.YtpoocenooomghaaDoor
open Go.RowKit Bs
/-- A total order up to what compares as nought. -/
structure Cmp {α : Type} (f : α → α → Int) : Prop where
  anti : ∀ x y, f y x = - f x y
  tr : ∀ x y z, 0 < f x y → 0 < f y z → 0 < f x z
  eq0 : ∀ x y, f x y = 0 → ∀ z, f x z = f y z
def lex {α : Type} (f g : α → α → Int) (x y : α) : Int := if f x y = 0 then g x y else f x y
set_option maxRecDepth 100000 in
theorem Cmp.lex {α : Type} {f g : α → α → Int} (hf : Cmp f) (hg : Cmp g) : Cmp (lex f g) := by
  refine ⟨fun x y => ?_, fun x y z h1 h2 => ?_, fun x y h z => ?_⟩
  · have a1 := hf.anti x y
    have a2 := hg.anti x y
    unfold Go.Proofs.YtpoocenooomghaaDoor.lex
    split <;> split <;> omega
  · unfold Go.Proofs.YtpoocenooomghaaDoor.lex at h1 h2 ⊢
    by_cases e1 : f x y = 0
    · rw [if_pos e1] at h1
      have e := hf.eq0 x y e1 z
      by_cases e2 : f y z = 0
      · rw [if_pos e2] at h2
        rw [e, if_pos e2]
        exact hg.tr x y z h1 h2
      · rw [if_neg e2] at h2
        rw [e, if_neg e2]
        exact h2
    · rw [if_neg e1] at h1
      by_cases e2 : f y z = 0
      · have e3 := hf.eq0 y z e2 x
        have a1 := hf.anti x y
        have a2 := hf.anti x z
        have : 0 < f x z := by omega
        rw [if_neg (by omega)]
        exact this
      · rw [if_neg e2] at h2
        have := hf.tr x y z h1 h2
        rw [if_neg (by omega)]
        exact this
  · unfold Go.Proofs.YtpoocenooomghaaDoor.lex at h ⊢
    by_cases e1 : f x y = 0
    · rw [if_pos e1] at h
      rw [hf.eq0 x y e1 z, hg.eq0 x y h z]
    · rw [if_neg e1] at h
      exact absurd h e1
set_option maxRecDepth 100000 in
theorem cmpV_cmp {α : Type} (h : α → Int) : Cmp (fun x y => cmpV (h x) (h y)) := by
  refine ⟨fun x y => ?_, fun x y z => ?_, fun x y e z => ?_⟩ <;> unfold cmpV at *
  · repeat' split
    all_goals omega
  · repeat' split
    all_goals omega
  · repeat' split at e
    all_goals (repeat' split)
    all_goals omega
set_option maxRecDepth 100000 in
theorem orV_two (a b : Int) : orV [a, b] = if a = 0 then b else a := by
  unfold orV orV orV
  split <;> (try split) <;> (try rfl)
  all_goals omega
set_option maxRecDepth 100000 in
theorem orV_cons (a : Int) (r : List Int) : orV (a :: r) = if a = 0 then orV r else a := rfl
set_option maxRecDepth 100000 in
theorem cmp3_cmp : Cmp cmp3 := by
  have h : cmp3 = lex (fun x y => cmpV x.a y.a) (lex (fun x y => cmpV x.b y.b) (fun x y => cmpV x.c y.c)) := by
    funext x y
    unfold cmp3 lex
    rw [orV_cons, orV_two]
  rw [h]
  exact (cmpV_cmp _).lex ((cmpV_cmp _).lex (cmpV_cmp _))
set_option maxRecDepth 100000 in
theorem Cmp.self {α : Type} {f : α → α → Int} (h : Cmp f) (x : α) : f x x = 0 := by have := h.anti x x; omega
set_option maxRecDepth 100000 in
theorem cfL_anti : ∀ L M : List T3, cfL M L = - cfL L M
  | [], [] => rfl
  | [], _ :: _ => rfl
  | _ :: _, [] => rfl
  | x :: s, y :: t => by
    rw [cfL, cfL, cfL_anti s t]
    have := cmp3_cmp.anti x y
    split <;> split <;> omega
set_option maxRecDepth 100000 in
theorem cfL_eq0 : ∀ L M : List T3, cfL L M = 0 → ∀ N, cfL L N = cfL M N
  | [], [], _, _ => rfl
  | [], _ :: _, h, _ => by rw [cfL] at h; exact absurd h (by decide)
  | _ :: _, [], h, _ => by rw [cfL] at h; exact absurd h (by decide)
  | x :: s, y :: t, h, N => by
    rw [cfL] at h
    by_cases e : cmp3 x y = 0
    · rw [if_pos e] at h
      cases N with
      | nil => rfl
      | cons z u => rw [cfL, cfL, cmp3_cmp.eq0 x y e z, cfL_eq0 s t h u]
    · rw [if_neg e] at h
      exact absurd h e
set_option maxRecDepth 100000 in
theorem cfL_tr : ∀ L M N : List T3, 0 < cfL L M → 0 < cfL M N → 0 < cfL L N
  | [], [], _, h, _ => by rw [cfL] at h; exact absurd h (by decide)
  | [], _ :: _, _, h, _ => by rw [cfL] at h; exact absurd h (by decide)
  | _ :: _, [], [], _, h => by rw [cfL] at h; exact absurd h (by decide)
  | _ :: _, [], _ :: _, _, h => by rw [cfL] at h; exact absurd h (by decide)
  | _ :: _, _ :: _, [], _, _ => by rw [cfL]; decide
  | x :: s, y :: t, z :: u, h1, h2 => by
    rw [cfL] at h1 h2 ⊢
    have ih := cfL_tr s t u
    have a1 := cmp3_cmp.anti x y
    have a2 := cmp3_cmp.anti x z
    have a3 := cmp3_cmp.anti y z
    by_cases e1 : cmp3 x y = 0
    · rw [if_pos e1] at h1
      rw [cmp3_cmp.eq0 x y e1 z]
      by_cases e2 : cmp3 y z = 0
      · rw [if_pos e2] at h2 ⊢; exact ih h1 h2
      · rw [if_neg e2] at h2 ⊢; exact h2
    · rw [if_neg e1] at h1
      by_cases e2 : cmp3 y z = 0
      · have e3 := cmp3_cmp.eq0 y z e2 x
        have : 0 < cmp3 x z := by have := cmp3_cmp.anti x z; have := cmp3_cmp.anti x y; omega
        rw [if_neg (by omega)]; exact this
      · rw [if_neg e2] at h2
        have := cmp3_cmp.tr x y z h1 h2
        rw [if_neg (by omega)]; exact this
set_option maxRecDepth 100000 in
theorem cfL_cmp : Cmp cfL := ⟨cfL_anti, cfL_tr, cfL_eq0⟩
set_option maxRecDepth 100000 in
theorem Cmp.on {α β : Type} {f : β → β → Int} (h : Cmp f) (g : α → β) : Cmp (fun x y => f (g x) (g y)) := ⟨fun _ _ => h.anti _ _, fun _ _ _ h1 h2 => h.tr _ _ _ h1 h2, fun _ _ e z => h.eq0 _ _ e (g z)⟩
set_option maxRecDepth 100000 in
theorem cLs_cmp : Cmp cLs := by
  have h : cLs = lex (fun L M => cmpV (L.length : Int) (M.length : Int)) cfL := by
    funext L M
    unfold cLs lex
    rw [orV_two]
  rw [h]
  exact (cmpV_cmp _).lex cfL_cmp
set_option maxRecDepth 100000 in
/-- The order of adverts is total. -/
theorem cmpA_cmp : Cmp cmpA := by
  have h : cmpA = lex (fun A B => cmpV A.r B.r) (lex (fun A B => cmpV A.q B.q) (lex (fun A B => cmpV ((A.cp.toNat : Nat) : Int) ((B.cp.toNat : Nat) : Int)) (lex (fun A B => cLs A.L B.L) (fun A B => cLs A.C B.C)))) := by
    funext A B
    unfold cmpA lex
    rw [orV_cons, orV_cons, orV_cons, orV_two]
  rw [h]
  exact (cmpV_cmp _).lex ((cmpV_cmp _).lex ((cmpV_cmp _).lex ((cLs_cmp.on _).lex (cLs_cmp.on _))))
end Go.Proofs.YtpoocenooomghaaDoor

/- advert: equal adverts, newer adverts. -/
namespace Go.Proofs.YtpoocenooomghaaDoor
open Go.RowKit Bs
set_option maxRecDepth 100000 in
theorem cmpV_zero {x y : Int} : cmpV x y = 0 ↔ x = y := by
  unfold cmpV
  repeat' split
  all_goals omega
set_option maxRecDepth 100000 in
theorem orV_zero {a : Int} {r : List Int} : orV (a :: r) = 0 ↔ (a = 0 ∧ orV r = 0) := by
  rw [orV_cons]
  by_cases e : a = 0
  · rw [if_pos e]; exact ⟨fun h => ⟨e, h⟩, fun h => h.2⟩
  · rw [if_neg e]; exact ⟨fun h => absurd h e, fun h => absurd h.1 e⟩
set_option maxRecDepth 100000 in
theorem orV_nil : orV [] = 0 := rfl
set_option maxRecDepth 100000 in
theorem cmp3_zero {x y : T3} : cmp3 x y = 0 ↔ x = y := by
  unfold cmp3
  rw [orV_zero, orV_zero, orV_zero, orV_nil, cmpV_zero, cmpV_zero, cmpV_zero]
  cases x; cases y
  simp
set_option maxRecDepth 100000 in
theorem cfL_zero : ∀ {L M : List T3}, cfL L M = 0 ↔ L = M
  | [], [] => by rw [cfL]; simp
  | [], _ :: _ => by rw [cfL]; simp
  | _ :: _, [] => by rw [cfL]; simp
  | x :: s, y :: t => by
    rw [cfL]
    by_cases e : cmp3 x y = 0
    · rw [if_pos e, cfL_zero (L := s) (M := t), cmp3_zero.1 e]; simp
    · rw [if_neg e]
      have : x ≠ y := fun h => e (cmp3_zero.2 h)
      simp [e, this]
set_option maxRecDepth 100000 in
theorem cLs_zero {L M : List T3} : cLs L M = 0 ↔ L = M := by
  unfold cLs
  rw [orV_zero, orV_zero, orV_nil, cmpV_zero, cfL_zero]
  exact ⟨fun h => h.2.1, fun h => ⟨by rw [h], h, rfl⟩⟩
/-- Two adverts are equal. -/
def smA (A B : Ad) : Prop := A.r = B.r ∧ A.q = B.q ∧ A.cp = B.cp ∧ A.L = B.L ∧ A.C = B.C
set_option maxRecDepth 100000 in
theorem cmpA_zero {A B : Ad} : cmpA A B = 0 ↔ smA A B := by
  unfold cmpA smA
  rw [orV_zero, orV_zero, orV_zero, orV_zero, orV_zero, orV_nil, cmpV_zero, cmpV_zero, cmpV_zero, cLs_zero, cLs_zero]
  cases A.cp <;> cases B.cp <;> simp
set_option maxRecDepth 100000 in
theorem nw_same {A B : Ad} (h : cmpA A B = 0) : nwA A B = false ∧ nwA B A = false := by
  have h2 : cmpA B A = 0 := by have := cmpA_cmp.anti A B; omega
  unfold nwA
  rw [h, h2]
  simp
set_option maxRecDepth 100000 in
theorem nw_one {A B : Ad} (hA : vAd A = true) (hB : vAd B = true) (hr : A.r = B.r) (h : cmpA A B ≠ 0) : nwA A B = !nwA B A := by
  have h2 := cmpA_cmp.anti A B
  unfold nwA
  rw [hA, hB, decide_eq_true hr, decide_eq_true hr.symm]
  simp only [Bool.true_and]
  by_cases e : 0 < cmpA A B
  · rw [decide_eq_true e, decide_eq_false (by omega)]; rfl
  · rw [decide_eq_false e, decide_eq_true (by omega)]; rfl
set_option maxRecDepth 100000 in
theorem nw_tr {A B C : Ad} (h1 : nwA A B = true) (h2 : nwA B C = true) : nwA A C = true := by
  unfold nwA at *
  simp only [Bool.and_eq_true, decide_eq_true_eq] at *
  exact ⟨h1.1, h2.2.1, h1.2.2.1.trans h2.2.2.1, cmpA_cmp.tr A B C h1.2.2.2 h2.2.2.2⟩
end Go.Proofs.YtpoocenooomghaaDoor

/- advert: what bytes say; Decode undoes Encode, the mathematics. -/
namespace Go.Proofs.YtpoocenooomghaaDoor
open Go.RowKit Bs
/-- The number in a field; 0 if it does not end within the bytes. -/
def fd (l : List Nat) (p k : Nat) : Nat := if 8 * l.length < p + k then 0 else num (bt l) p k
def rdL (l : List Nat) (n : Nat) : List T3 := (List.range n).map fun i => ⟨(fd l (33 + i * 27) 7 : Nat), (fd l (33 + i * 27 + 7) 10 : Nat), (fd l (33 + i * 27 + 7 + 10) 10 : Nat)⟩
def rdC (l : List Nat) (p n : Nat) : List T3 := (List.range n).map fun i => ⟨(fd l (p + i * 14) 3 : Nat), (fd l (p + i * 14 + 3) 9 : Nat), (8 * 2 ^ fd l (p + i * 14 + 3 + 9) 2 : Nat)⟩
def nLk (l : List Nat) : Nat := fd l 28 5
def aCm (l : List Nat) : Nat := 33 + nLk l * 27
def nCm (l : List Nat) : Nat := fd l (aCm l) 4
def eCm (l : List Nat) : Nat := aCm l + 4 + nCm l * 14
/-- The fields of an advert are those that the bytes say. -/
structure AdIs (l : List Nat) (A : Ad) : Prop where
  r : A.r = (fd l 0 7 : Nat)
  q : A.q = (fd l 7 20 : Nat)
  cp : A.cp = decide (fd l 27 1 = 1)
  L : A.L = rdL l (nLk l)
  C : A.C = rdC l (aCm l + 4) (nCm l)
set_option maxRecDepth 100000 in
theorem fd_lt (l : List Nat) (p k : Nat) : fd l p k < 2 ^ k := by
  unfold fd
  split
  · exact Nat.two_pow_pos k
  · exact num_lt _ _ _
set_option maxRecDepth 100000 in
theorem rdL_len (l : List Nat) (n : Nat) : (rdL l n).length = n := by unfold rdL; simp
set_option maxRecDepth 100000 in
theorem rdC_len (l : List Nat) (p n : Nat) : (rdC l p n).length = n := by unfold rdC; simp
set_option maxRecDepth 100000 in
theorem rdL_succ (l : List Nat) (n : Nat) : rdL l (n + 1) = rdL l n ++ [⟨(fd l (33 + n * 27) 7 : Nat), (fd l (33 + n * 27 + 7) 10 : Nat), (fd l (33 + n * 27 + 7 + 10) 10 : Nat)⟩] := by unfold rdL; rw [List.range_succ, List.map_append]; rfl
set_option maxRecDepth 100000 in
theorem rdC_succ (l : List Nat) (p n : Nat) : rdC l p (n + 1) = rdC l p n ++ [⟨(fd l (p + n * 14) 3 : Nat), (fd l (p + n * 14 + 3) 9 : Nat), (8 * 2 ^ fd l (p + n * 14 + 3 + 9) 2 : Nat)⟩] := by unfold rdC; rw [List.range_succ, List.map_append]; rfl
/-- The error of bytes, but for what the fields say. -/
def decE (l : List Nat) (v : Bool) : Nat :=
  if 8 * l.length < eCm l + 16 then 20
  else if num (bt l) (eCm l) 16 ≠ Bs.crcB (bt l) (eCm l) then 23
  else if num (bt l) (eCm l + 16) ((8 - (eCm l + 16) % 8) % 8) ≠ 0 then 24
  else if (eCm l + 16 + 7) / 8 < l.length then 21
  else if v = false then 1 else 0
/-! What an encoding says. -/
set_option maxRecDepth 100000 in
theorem anum_mid (A C : List Bool) (x k : Nat) (hx : x < 2 ^ k) : num (bf (A ++ nb x k ++ C)) A.length k = x := by
  refine (num_eq hx fun t ht => ?_).symm
  rw [bf_left _ _ _ (by rw [List.length_append, nb_len]; omega), bf_right, bf_nb _ _ _ ht]
set_option maxRecDepth 100000 in
theorem anum_pk {B : List Bool} {l : List Nat} {a k : Nat} (hl : l = pk B) (h : a + k ≤ 8 * l.length) : num (bt l) a k = num (bf B) a k := by
  refine num_congr k fun t ht => ?_
  rw [hl]
  refine bt_pk B _ ?_
  rw [hl, pk_len] at h
  omega
set_option maxRecDepth 100000 in
theorem fd_mid {l : List Nat} (P Q : List Bool) (x k p : Nat) (hl : l = pk (P ++ nb x k ++ Q)) (hp : p = P.length) (hx : x < 2 ^ k) : fd l p k = x := by
  have h1 : p + k ≤ 8 * l.length := by rw [hl, pk_len, hp]; simp only [List.length_append, nb_len]; omega
  unfold fd
  rw [if_neg (by omega), anum_pk hl h1, hp]
  exact anum_mid P Q x k hx
/-- The bits of an encoding. -/
def alB (A : Ad) : List Bool := adB A ++ nb (ck (adB A)) 16
set_option maxRecDepth 100000 in
theorem encA_al (A : Ad) : encA A = pk (alB A) := rfl
set_option maxRecDepth 100000 in
theorem flatA_at {f : T3 → List Bool} {l : List T3} {k : Nat} {x : T3} (h : l[k]? = some x) : l.flatMap f = (l.take k).flatMap f ++ f x ++ (l.drop (k + 1)).flatMap f := by
  have e : l = l.take k ++ x :: l.drop (k + 1) := by
    obtain ⟨hk, he⟩ := List.getElem?_eq_some_iff.1 h
    rw [← he, ← List.drop_eq_getElem_cons hk, List.take_append_drop]
  have e2 : l.flatMap f = (l.take k ++ x :: l.drop (k + 1)).flatMap f := congrArg (List.flatMap f) e
  rw [e2, List.flatMap_append, List.flatMap_cons, ← List.append_assoc]
set_option maxRecDepth 100000 in
theorem alB_lk {A : Ad} {k : Nat} {x : T3} (h : A.L[k]? = some x) : ∃ Q, alB A = lkB A k ++ nb x.a.toNat 7 ++ nb x.b.toNat 10 ++ nb x.c.toNat 10 ++ Q := by
  refine ⟨(A.L.drop (k + 1)).flatMap encR ++ nb A.C.length 4 ++ (A.C.take A.C.length).flatMap encK ++ nb (ck (adB A)) 16, ?_⟩
  unfold alB
  generalize nb (ck (adB A)) 16 = T
  unfold adB cmB mdB lkB
  rw [List.take_length, flatA_at (f := encR) h]
  simp only [encR, List.append_assoc]
set_option maxRecDepth 100000 in
theorem alB_cm {A : Ad} {k : Nat} {x : T3} (h : A.C[k]? = some x) : ∃ Q, alB A = cmB A k ++ nb x.a.toNat 3 ++ nb x.b.toNat 9 ++ nb (codeN x.c) 2 ++ Q := by
  refine ⟨(A.C.drop (k + 1)).flatMap encK ++ nb (ck (adB A)) 16, ?_⟩
  unfold alB
  generalize nb (ck (adB A)) 16 = T
  unfold adB cmB
  rw [List.take_length, flatA_at (f := encK) h]
  simp only [encK, List.append_assoc]
set_option maxRecDepth 100000 in
theorem code_bk {c : Int} (h : c = 8 ∨ c = 16 ∨ c = 32 ∨ c = 64) : ((8 * 2 ^ codeN c : Nat) : Int) = c ∧ codeN c < 4 := by
  rcases h with rfl | rfl | rfl | rfl <;> decide
set_option maxRecDepth 100000 in
theorem enc_nLk {A : Ad} (h : VA A) : nLk (encA A) = A.L.length := by
  unfold nLk
  refine fd_mid (nb A.r.toNat 7 ++ nb A.q.toNat 20 ++ nb A.cp.toNat 1) ((A.L.take A.L.length).flatMap encR ++ nb A.C.length 4 ++ (A.C.take A.C.length).flatMap encK ++ nb (ck (adB A)) 16) _ 5 28 ?_ ?_ ?_
  · rw [encA_al]
    refine congrArg pk ?_
    unfold alB
    generalize nb (ck (adB A)) 16 = T
    unfold adB cmB mdB lkB hdB
    simp only [List.append_assoc]
  · simp only [List.length_append, nb_len]
  · have := h.ll; omega
set_option maxRecDepth 100000 in
theorem enc_aCm {A : Ad} (h : VA A) : aCm (encA A) = 33 + A.L.length * 27 := by unfold aCm; rw [enc_nLk h]
set_option maxRecDepth 100000 in
theorem enc_nCm {A : Ad} (h : VA A) : nCm (encA A) = A.C.length := by
  unfold nCm
  rw [enc_aCm h]
  refine fd_mid (lkB A A.L.length) ((A.C.take A.C.length).flatMap encK ++ nb (ck (adB A)) 16) _ 4 _ ?_ ?_ ?_
  · rw [encA_al]
    refine congrArg pk ?_
    unfold alB
    generalize nb (ck (adB A)) 16 = T
    unfold adB cmB mdB
    simp only [List.append_assoc]
  · rw [lkB_len, List.take_length]
  · have := h.cl; omega
set_option maxRecDepth 100000 in
theorem enc_eCm {A : Ad} (h : VA A) : eCm (encA A) = (adB A).length := by
  unfold eCm
  rw [enc_aCm h, enc_nCm h, adB_len]
  omega
set_option maxRecDepth 100000 in
theorem enc_len2 (A : Ad) : (encA A).length = ((adB A).length + 16 + 7) / 8 := by rw [encA_al, pk_len]; unfold alB; rw [List.length_append, nb_len]
set_option maxRecDepth 100000 in
theorem enc_is {A : Ad} (h : VA A) : AdIs (encA A) A := by
  have e := encA_al A
  refine ⟨?_, ?_, ?_, ?_, ?_⟩
  · rw [fd_mid [] (nb A.q.toNat 20 ++ nb A.cp.toNat 1 ++ nb A.L.length 5 ++ (A.L.take A.L.length).flatMap encR ++ nb A.C.length 4 ++ (A.C.take A.C.length).flatMap encK ++ nb (ck (adB A)) 16) A.r.toNat 7 0 ?_ rfl (by have := h.r; omega), Int.toNat_of_nonneg (by have := h.r; omega)]
    rw [e]
    refine congrArg pk ?_
    unfold alB
    generalize nb (ck (adB A)) 16 = T
    unfold adB cmB mdB lkB hdB
    simp only [List.append_assoc, List.nil_append]
  · rw [fd_mid (nb A.r.toNat 7) (nb A.cp.toNat 1 ++ nb A.L.length 5 ++ (A.L.take A.L.length).flatMap encR ++ nb A.C.length 4 ++ (A.C.take A.C.length).flatMap encK ++ nb (ck (adB A)) 16) A.q.toNat 20 7 ?_ (by rw [nb_len]) (by have := h.q; omega), Int.toNat_of_nonneg (by have := h.q; omega)]
    rw [e]
    refine congrArg pk ?_
    unfold alB
    generalize nb (ck (adB A)) 16 = T
    unfold adB cmB mdB lkB hdB
    simp only [List.append_assoc]
  · rw [fd_mid (nb A.r.toNat 7 ++ nb A.q.toNat 20) (nb A.L.length 5 ++ (A.L.take A.L.length).flatMap encR ++ nb A.C.length 4 ++ (A.C.take A.C.length).flatMap encK ++ nb (ck (adB A)) 16) A.cp.toNat 1 27 ?_ (by simp only [List.length_append, nb_len]) (by cases A.cp <;> decide)]
    · cases A.cp <;> rfl
    rw [e]
    refine congrArg pk ?_
    unfold alB
    generalize nb (ck (adB A)) 16 = T
    unfold adB cmB mdB lkB hdB
    simp only [List.append_assoc]
  · rw [enc_nLk h]
    refine List.ext_getElem? fun i => ?_
    rcases Nat.lt_or_ge i A.L.length with hi | hi
    · obtain ⟨x, hx⟩ : ∃ x, A.L[i]? = some x := ⟨_, List.getElem?_eq_getElem hi⟩
      obtain ⟨Q, hQ⟩ := alB_lk hx
      have hb := h.L x (List.mem_of_getElem? hx)
      have hlen : (lkB A i).length = 33 + i * 27 := by rw [lkB_len, List.length_take, Nat.min_eq_left (by omega)]
      unfold rdL
      rw [hx, List.getElem?_map, List.getElem?_range hi]
      show some x = some (⟨_, _, _⟩ : T3)
      rw [fd_mid (lkB A i) (nb x.b.toNat 10 ++ nb x.c.toNat 10 ++ Q) x.a.toNat 7 _ (by rw [e, hQ]; simp only [List.append_assoc]) hlen.symm (by omega),
        fd_mid (lkB A i ++ nb x.a.toNat 7) (nb x.c.toNat 10 ++ Q) x.b.toNat 10 _ (by rw [e, hQ]; simp only [List.append_assoc]) (by rw [List.length_append, hlen, nb_len]) (by omega),
        fd_mid (lkB A i ++ nb x.a.toNat 7 ++ nb x.b.toNat 10) Q x.c.toNat 10 _ (by rw [e, hQ]) (by rw [List.length_append, List.length_append, hlen, nb_len, nb_len]) (by omega),
        Int.toNat_of_nonneg (by omega), Int.toNat_of_nonneg (by omega), Int.toNat_of_nonneg (by omega)]
    · rw [List.getElem?_eq_none hi, List.getElem?_eq_none (by rw [rdL_len]; exact hi)]
  · rw [enc_nCm h, enc_aCm h]
    refine List.ext_getElem? fun i => ?_
    rcases Nat.lt_or_ge i A.C.length with hi | hi
    · obtain ⟨x, hx⟩ : ∃ x, A.C[i]? = some x := ⟨_, List.getElem?_eq_getElem hi⟩
      obtain ⟨Q, hQ⟩ := alB_cm hx
      have hb := h.C x (List.mem_of_getElem? hx)
      obtain ⟨k1, k2⟩ := code_bk hb.2.2
      have hlen : (cmB A i).length = 33 + A.L.length * 27 + 4 + i * 14 := by rw [cmB_len, List.length_take, Nat.min_eq_left (by omega)]; omega
      unfold rdC
      rw [hx, List.getElem?_map, List.getElem?_range hi]
      show some x = some (⟨_, _, _⟩ : T3)
      rw [fd_mid (cmB A i) (nb x.b.toNat 9 ++ nb (codeN x.c) 2 ++ Q) x.a.toNat 3 _ (by rw [e, hQ]; simp only [List.append_assoc]) hlen.symm (by omega),
        fd_mid (cmB A i ++ nb x.a.toNat 3) (nb (codeN x.c) 2 ++ Q) x.b.toNat 9 _ (by rw [e, hQ]; simp only [List.append_assoc]) (by rw [List.length_append, hlen, nb_len]) (by omega),
        fd_mid (cmB A i ++ nb x.a.toNat 3 ++ nb x.b.toNat 9) Q (codeN x.c) 2 _ (by rw [e, hQ]) (by rw [List.length_append, List.length_append, hlen, nb_len, nb_len]) (by omega),
        Int.toNat_of_nonneg (by omega), Int.toNat_of_nonneg (by omega), k1]
    · rw [List.getElem?_eq_none hi, List.getElem?_eq_none (by rw [rdC_len]; exact hi)]
set_option maxRecDepth 100000 in
/-- An encoding has no error. -/
theorem enc_decE {A : Ad} (h : VA A) : decE (encA A) true = 0 := by
  have hE := enc_eCm h
  have hlen := enc_len2 A
  have hal : (alB A).length = (adB A).length + 16 := by unfold alB; rw [List.length_append, nb_len]
  unfold decE
  rw [hE, if_neg (by omega), if_neg, if_neg, if_neg (by omega), if_neg (by decide)]
  · intro hne
    refine hne ?_
    have hx : 0 = num (bt (encA A)) ((adB A).length + 16) ((8 - ((adB A).length + 16) % 8) % 8) := by
      refine num_eq (Nat.two_pow_pos _) fun t ht => ?_
      rw [Nat.zero_testBit, encA_al, bt_pk _ _ (by rw [hal]; omega)]
      exact (bf_out _ _ (by rw [hal]; omega)).symm
    exact hx.symm
  · intro hne
    refine hne ?_
    rw [anum_pk (encA_al A) (by rw [hlen]; omega)]
    have h2 := anum_mid (adB A) [] (ck (adB A)) 16 (chk_lt _ _)
    rw [List.append_nil] at h2
    show num (bf (adB A ++ nb (ck (adB A)) 16)) (adB A).length 16 = _
    rw [h2]
    unfold ck
    refine chk_same _ fun i hi => ?_
    rw [encA_al, bt_pk _ _ (by rw [hal]; omega)]
    unfold alB
    rw [bf_left _ _ _ hi]
end Go.Proofs.YtpoocenooomghaaDoor

/- advert: an advert while its lists grow; the reader while fields are taken. -/
namespace Go.Proofs.YtpoocenooomghaaDoor
open Go.RowKit Bs
/-- While an advert is made in block B: the block holds uL, uC; its lists lie in rows of the call's own, vL and vC. Z is the result's block. -/
structure AG (W : World) (Z B : Nat) (r q : Int) (cp : Bool) (uL uC vL vC : Value) (L C : List T3) (w : World) : Prop where
  zb : w.heap[Z]? = some (.cells #[.int .i64 0, .int .i64 0, .bool false, .slice none 0 0, .slice none 0 0] 26 (0, 0))
  ab : w.heap[B]? = some (.cells #[.int .i64 r, .int .i64 q, .bool cp, uL, uC] 26 (0, 0))
  oL : w.ownsRow (B + 1) 70 3 vL L.length (L.flatMap t3C)
  oC : w.ownsRow (B + 1) 73 3 vC C.length (C.flatMap t3C)
  ap : ∀ g, vL.ownBlock = some g → vC.ownBlock ≠ some g
  lo : W.heap.size ≤ Z ∧ Z < B
  sz : B < w.heap.size
section
variable {W w w1 : World} {Z B : Nat} {r q : Int} {cp : Bool} {uL uC vL vC v' : Value} {L C : List T3}
set_option maxRecDepth 100000 in
theorem AG.keep (h : AG W Z B r q cp uL uC vL vC L C w) (g : w.grownBy w1 none) : AG W Z B r q cp uL uC vL vC L C w1 :=
  ⟨kept_row h.zb g (by simp), kept_row h.ab g (by simp), h.oL.kept g (by cases vL.ownBlock <;> simp), h.oC.kept g (by cases vC.ownBlock <;> simp), h.ap, h.lo, Nat.lt_of_lt_of_le h.sz g.size⟩
set_option maxRecDepth 100000 in
theorem AG.out (h : AG W Z B r q cp uL uC vL vC L C w) {b : Nat} (g : w.grownBy w1 (some b)) (hb : b < W.heap.size) : AG W Z B r q cp uL uC vL vC L C w1 := by
  have hlo := h.lo
  exact ⟨kept_row h.zb g (fun e => by have := Option.some.inj e; omega), kept_row h.ab g (fun e => by have := Option.some.inj e; omega), own_otherA h.oL g (by omega), own_otherA h.oC g (by omega), h.ap, h.lo, Nat.lt_of_lt_of_le h.sz g.size⟩
set_option maxRecDepth 100000 in
theorem AG.geL (h : AG W Z B r q cp uL uC vL vC L C w) : ∀ g, vL.ownBlock = some g → B + 1 ≤ g ∧ g < w.heap.size := fun g hg => h.oL.lt g hg
set_option maxRecDepth 100000 in
theorem AG.geC (h : AG W Z B r q cp uL uC vL vC L C w) : ∀ g, vC.ownBlock = some g → B + 1 ≤ g ∧ g < w.heap.size := fun g hg => h.oC.lt g hg
set_option maxRecDepth 100000 in
theorem AG.addL (h : AG W Z B r q cp uL uC vL vC L C w) {M : List T3} (hown : w1.ownsRow (B + 1) 70 3 v' M.length (M.flatMap t3C)) (hg : w.grownBy w1 vL.ownBlock) (hat : v'.ownBlock = vL.ownBlock ∨ v'.ownBlock = some w.heap.size) : AG W Z B r q cp uL uC v' vC M C w1 := by
  have hlo := h.lo
  have hne : ∀ k, k < B + 1 → some k ≠ vL.ownBlock := fun k hk e => by have := (h.geL k e.symm).1; omega
  refine ⟨kept_row h.zb hg (hne _ (by omega)), kept_row h.ab hg (hne _ (by omega)), hown, h.oC.kept hg ?_, ?_, h.lo, Nat.lt_of_lt_of_le h.sz hg.size⟩
  · cases hv : vC.ownBlock with
    | none => exact .inl rfl
    | some k => exact .inr (fun e => h.ap k e.symm hv)
  · intro g2 hg2 e
    rcases hat with h1 | h1
    · exact h.ap g2 (by rw [← h1]; exact hg2) e
    · rw [h1] at hg2
      have := Option.some.inj hg2
      have := (h.geC g2 e).2
      omega
set_option maxRecDepth 100000 in
theorem AG.addC (h : AG W Z B r q cp uL uC vL vC L C w) {M : List T3} (hown : w1.ownsRow (B + 1) 73 3 v' M.length (M.flatMap t3C)) (hg : w.grownBy w1 vC.ownBlock) (hat : v'.ownBlock = vC.ownBlock ∨ v'.ownBlock = some w.heap.size) : AG W Z B r q cp uL uC vL v' L M w1 := by
  have hlo := h.lo
  have hne : ∀ k, k < B + 1 → some k ≠ vC.ownBlock := fun k hk e => by have := (h.geC k e.symm).1; omega
  refine ⟨kept_row h.zb hg (hne _ (by omega)), kept_row h.ab hg (hne _ (by omega)), h.oL.kept hg ?_, hown, ?_, h.lo, Nat.lt_of_lt_of_le h.sz hg.size⟩
  · cases hv : vL.ownBlock with
    | none => exact .inl rfl
    | some k => exact .inr (fun e => h.ap k hv e.symm)
  · intro g2 hg2 e
    rcases hat with h1 | h1
    · exact h.ap g2 hg2 (by rw [← h1]; exact e)
    · rw [h1] at e
      have := Option.some.inj e
      have := (h.geL g2 hg2).2
      omega
set_option maxRecDepth 100000 in
theorem AG.putL (h : AG W Z B r q cp uL uC vL vC L C w) : AG W Z B r q cp vL uC vL vC L C (w.setCell ⟨B, 3, none⟩ vL) := by
  have g := grown_setCell w ⟨B, 3, none⟩ vL
  have hlo := h.lo
  refine ⟨kept_row h.zb g (fun e => by have : Z = B := Option.some.inj e; omega), ?_, own_otherA h.oL g (Nat.lt_succ_self _), own_otherA h.oC g (Nat.lt_succ_self _), h.ap, h.lo, Nat.lt_of_lt_of_le h.sz g.size⟩
  have h1 := heap_setCell_same w B 3 _ _ vL h.ab
  rw [h1]; rfl
set_option maxRecDepth 100000 in
theorem AG.putC (h : AG W Z B r q cp uL uC vL vC L C w) : AG W Z B r q cp uL vC vL vC L C (w.setCell ⟨B, 4, none⟩ vC) := by
  have g := grown_setCell w ⟨B, 4, none⟩ vC
  have hlo := h.lo
  refine ⟨kept_row h.zb g (fun e => by have : Z = B := Option.some.inj e; omega), ?_, own_otherA h.oL g (Nat.lt_succ_self _), own_otherA h.oC g (Nat.lt_succ_self _), h.ap, h.lo, Nat.lt_of_lt_of_le h.sz g.size⟩
  have h1 := heap_setCell_same w B 4 _ _ vC h.ab
  rw [h1]; rfl
set_option maxRecDepth 100000 in
theorem AG.cells (h : AG W Z B r q cp uL uC vL vC L C w) : w.cell? ⟨B, 0, none⟩ = some (.int .i64 r) ∧ w.cell? ⟨B, 1, none⟩ = some (.int .i64 q) ∧ w.cell? ⟨B, 2, none⟩ = some (.bool cp) ∧ w.cell? ⟨B, 3, none⟩ = some uL ∧ w.cell? ⟨B, 4, none⟩ = some uC := by
  refine ⟨?_, ?_, ?_, ?_, ?_⟩ <;> (rw [cell_of_row _ _ _ _ _ _ h.ab]; rfl)
set_option maxRecDepth 100000 in
theorem AG.ok (h : AG W Z B r q cp uL uC vL vC L C w) {pL pC : Option Addr} {cL cC : Nat} (h1 : vL = .slice pL L.length cL) (h2 : vC = .slice pC C.length cC) : AdOk w (B < ·) ⟨r, q, cp, L, C, pL, cL, pC, cC⟩ := by
  obtain ⟨p1, c1, e1, n1, m1⟩ := own_shape h.oL
  obtain ⟨p2, c2, e2, n2, m2⟩ := own_shape h.oC
  have r1 := rdf_of_own h.oL
  have r2 := rdf_of_own h.oC
  subst h1
  subst h2
  injection e1 with a1 a2 a3
  injection e2 with b1 b2 b3
  subst a3
  subst b3
  exact ⟨r1.mono fun b hb => hb, r2.mono fun b hb => hb, ⟨n1, m1⟩, ⟨n2, m2⟩⟩
end
/-- The reader's box where pos bits have been asked for. -/
structure RN (W : World) (S : Nat) (l : List Nat) (p : Option Addr) (c pos : Nat) (w : World) : Prop where
  bx : ∃ a : Nat, w.heap[S]? = some (.cells #[.slice p l.length c, .int .i64 (8 * (l.length : Int)), .int .i64 (a : Int), .bool (decide (8 * l.length < pos))] 82 (0, 0)) ∧ a ≤ pos ∧ (¬ 8 * l.length < pos → a = pos) ∧ a ≤ 8 * l.length
  rd : Rd w (fun b => b ≠ S ∧ b < W.heap.size) (.slice p l.length c) (l.map nv)
  gr : W.grownBy w (some S)
  lt : S < W.heap.size
section
variable {W w w1 : World} {S : Nat} {l : List Nat} {p : Option Addr} {c pos : Nat}
set_option maxRecDepth 100000 in
theorem RN.keep (h : RN W S l p c pos w) (g : w.grownBy w1 none) : RN W S l p c pos w1 := by
  obtain ⟨a, h1, h2, h3⟩ := h.bx
  exact ⟨⟨a, kept_row h1 g (by simp), h2, h3⟩, h.rd.grown g (fun _ _ => by simp), grown_trans h.gr (grown_none g _), h.lt⟩
set_option maxRecDepth 100000 in
theorem RN.new (h : RN W S l p c pos w) {b : Nat} (g : w.grownBy w1 (some b)) (hb : W.heap.size ≤ b) : RN W S l p c pos w1 := by
  obtain ⟨a, h1, h2, h3⟩ := h.bx
  have hlt := h.lt
  refine ⟨⟨a, kept_row h1 g (fun e => by have := Option.some.inj e; omega), h2, h3⟩, h.rd.grown g (fun x hx e => by have := Option.some.inj e; have := hx.2; omega), ?_, h.lt⟩
  exact ⟨g.os.trans h.gr.os, g.tape.trans h.gr.tape, g.output.trans h.gr.output, Nat.le_trans h.gr.size g.size, fun i hi hia => (g.block i (Nat.lt_of_lt_of_le hi h.gr.size) (fun e => by have := Option.some.inj e; omega)).trans (h.gr.block i hi hia)⟩
set_option maxRecDepth 100000 in
theorem RN.row (h : RN W S l p c pos w) {o : Option Nat} (g : w.grownBy w1 o) (hb : ∀ b, o = some b → W.heap.size ≤ b) : RN W S l p c pos w1 := by
  cases o with
  | none => exact h.keep g
  | some b => exact h.new g (hb b rfl)
set_option maxRecDepth 100000 in
theorem RN.take (h : RN W S l p c pos w) (hl : By l) (h1 : l.length ≤ 1024) (k : Nat) (hk : k ≤ 20) (_hp : pos ≤ 8192) :
    Calls Tryd.prog 52 #[.pointer (some ⟨S, 0, none⟩), .int .i64 (k : Int)] w fun e w' => e = .returned (.int .i64 ((fd l pos k : Nat) : Int)) ∧ RN W S l p c (pos + k) w' ∧ w.grownBy w' (some S) := by
  obtain ⟨a, hb, ha, he, h8⟩ := h.bx
  refine (atake_any l hl h1 S a k _ p c w ⟨hb, h.rd.mono fun b hb => hb.1⟩ (by omega) hk).mono ?_
  rintro e w' ⟨rfl, hx, hg⟩
  have hs : tkS l a (decide (8 * l.length < pos)) k = decide (8 * l.length < pos + k) := by
    unfold tkS
    by_cases h2 : 8 * l.length < pos
    · rw [decide_eq_true h2, decide_eq_true (show 8 * l.length < pos + k by omega)]; rfl
    · rw [he h2, decide_eq_false h2, Bool.false_or]
  refine ⟨?_, ⟨⟨tkA l a (decide (8 * l.length < pos)) k, by rw [← hs]; exact hx.bx, ?_, ?_, ?_⟩, h.rd.grown hg (fun x hx e => hx.1 (Option.some.inj e)), grown_trans h.gr hg, h.lt⟩, hg⟩
  · congr 2
    unfold tkV fd
    rw [hs]
    by_cases h2 : 8 * l.length < pos + k
    · rw [decide_eq_true h2, if_pos rfl, if_pos h2]
    · rw [decide_eq_false h2, if_neg (by decide), if_neg h2, he (by omega)]
  · unfold tkA
    split <;> omega
  · intro h2
    unfold tkA
    rw [hs, decide_eq_false h2, if_neg (by decide), he (by omega)]
  · unfold tkA
    by_cases h2 : 8 * l.length < pos + k
    · rw [hs, decide_eq_true h2, if_pos rfl]; exact h8
    · rw [hs, decide_eq_false h2, if_neg (by decide), he (by omega)]; omega
end
end Go.Proofs.YtpoocenooomghaaDoor

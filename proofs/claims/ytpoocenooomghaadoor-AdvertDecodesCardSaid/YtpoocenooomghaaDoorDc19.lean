/- Parts of the proof, packed: AdDcB, AdDcLaw, PkOpnW. -/
import Derived.Test.YtpoocenooomghaaDoorDc15
import Derived.Test.YtpoocenooomghaaDoorDc13
import Derived.Test.YtpoocenooomghaaDoorDc17
import Derived.Test.YtpoocenooomghaaDoorDc18
import Derived.Deep.QuietTactic
import Derived.BigQuiet
import Derived.Test.YtpoocenooomghaaDoorDc2
/- AdvertDecodes: the bytes that are changed; what both Decodes return. -/
namespace Go.Proofs.YtpoocenooomghaaDoor
open Go.RowKit Bs
set_option maxRecDepth 100000 in
theorem own_take {w : World} {base g n cap k : Nat} {e : TypeId} {xs : List Value} (h : w.ownsRow base e 1 (.slice (some ⟨g, 0, none⟩) n cap) n xs) (hk : k ≤ n) : w.ownsRow base e 1 (.slice (some ⟨g, 0, none⟩) k cap) k (xs.take k) := by
  obtain ⟨h1, h2⟩ := h
  rcases h2 with ⟨h0, _⟩ | ⟨g', cap', cur, hv, hg, hh, hn, hcap, hsz, htake⟩
  · cases h0
  · cases hv
    refine ⟨by rw [List.length_take, h1]; omega, .inr ⟨g, cap, cur, rfl, hg, hh, by omega, hcap, hsz, ?_⟩⟩
    rw [← htake, List.take_take]
    congr 1; omega
set_option maxRecDepth 100000 in
theorem st_append2 {a : Nat} {w wr w1 : World} {o : Obj} {v : Value} {n : Nat} {e : TypeId} {xs : List Value} (hs : St a w wr) (ha : a < w.heap.size) (hown : wr.ownsRow w.heap.size e 1 v n xs) (hg : (wr.alloc o).grownBy w1 v.ownBlock) : St a w w1 := by
  have h1 : St a w (wr.alloc o) := hs.trans ⟨World.grownBy_alloc wr o _, hs.2.alloc o⟩
  cases hb : v.ownBlock with
  | none => rw [hb] at hg; exact ⟨grown_trans h1.1 (grown_none hg _), h1.2.keep hg⟩
  | some g => rw [hb] at hg; exact h1.store hg (hown.lt g hb).1 ha
/-- The bytes that are changed, in memory of the law's own. -/
structure MB (a : Nat) (W : World) (p : Option Addr) (c : Nat) (l : List Nat) (w : World) : Prop where
  own : Own w W.heap.size p c l
  st : St a W w
section
variable {a : Nat} {W w w1 : World} {p : Option Addr} {c g : Nat} {l : List Nat}
set_option maxRecDepth 100000 in
theorem MB.tape (h : MB a W p c l w) (ha : a < W.heap.size) (k : St a w w1) : MB a W p c l w1 := ⟨h.own.other k.1 ha, h.st.trans k⟩
set_option maxRecDepth 100000 in
theorem MB.set (h : MB a W (some ⟨g, 0, none⟩) c l w) (ha : a < W.heap.size) {j x : Nat} (hx : x < 256) : MB a W (some ⟨g, 0, none⟩) c (l.set j x) (w.setCell ⟨g, j, none⟩ (nv x)) := by
  obtain ⟨k1, k2⟩ := h.own.own.stored j (nv x)
  have hg := (h.own.own.lt g rfl).1
  refine ⟨⟨by rw [List.length_set, List.map_set]; exact k1, h.own.pc, fun y hy => ?_⟩, h.st.store (b := g) k2 hg ha⟩
  rcases List.mem_or_eq_of_mem_set hy with hy | rfl
  · exact h.own.by_ y hy
  · exact hx
set_option maxRecDepth 100000 in
theorem MB.cut (h : MB a W (some ⟨g, 0, none⟩) c l w) {k : Nat} (hk : k ≤ l.length) : MB a W (some ⟨g, 0, none⟩) c (l.take k) w := by
  have e : (l.take k).length = k := by rw [List.length_take]; omega
  refine ⟨⟨?_, h.own.pc, fun x hx => h.own.by_ x (List.mem_of_mem_take hx)⟩, h.st⟩
  rw [e, List.map_take]
  exact own_take h.own.own hk
set_option maxRecDepth 100000 in
theorem MB.more (h : MB a W p c l w) (ha : a < W.heap.size) {x : Nat} {v' : Value} {o : Obj} (hx : x < 256) (hown : w1.ownsRow W.heap.size 5 1 v' (l.length + 1) (l.map nv ++ [nv x])) (hg : (w.alloc o).grownBy w1 (Value.slice p l.length c).ownBlock) : ∃ p' c', v' = .slice p' (l ++ [x]).length c' ∧ MB a W p' c' (l ++ [x]) w1 := by
  obtain ⟨p', c', rfl, hpc⟩ := own_parts hown
  refine ⟨p', c', by rw [List.length_append]; rfl, ⟨by rw [List.length_append, List.map_append]; exact hown, hpc, fun y hy => ?_⟩, st_append2 h.st ha h.own.own hg⟩
  rcases List.mem_append.1 hy with hy | hy
  · exact h.own.by_ y hy
  · have : y = x := by simpa using hy
    omega
end
set_option maxRecDepth 100000 in
theorem st_undrew {a : Nat} {w w1 : World} (h : St a w.drew w1) : St a w w1 := ⟨grown_undrew_some h.1, h.2⟩
set_option maxRecDepth 100000 in
theorem own_le_cap {w : World} {base g n cap : Nat} {e : TypeId} {xs : List Value} (h : w.ownsRow base e 1 (.slice (some ⟨g, 0, none⟩) n cap) n xs) : n ≤ cap := by
  obtain ⟨h1, h2⟩ := h
  rcases h2 with ⟨h0, _⟩ | ⟨g', cap', cur, hv, hg, hh, hn, hcap, hsz, htake⟩
  · cases h0
  · cases hv; exact hn
set_option maxRecDepth 100000 in
theorem xor_byte {x z : Nat} (hx : x < 256) (hz : z < 8) : ∃ X : Nat, X < 256 ∧ bits .xor .u8 (x : Int) (IntKind.u8.wrap (2 ^ min (IntKind.u64.wrap (z : Int)).toNat 8)) = (X : Int) := by
  have e : IntKind.u8.wrap (2 ^ min (IntKind.u64.wrap (z : Int)).toNat 8) = ((2 ^ z : Nat) : Int) := by
    rcases (show z = 0 ∨ z = 1 ∨ z = 2 ∨ z = 3 ∨ z = 4 ∨ z = 5 ∨ z = 6 ∨ z = 7 by omega) with rfl | rfl | rfl | rfl | rfl | rfl | rfl | rfl <;> decide
  rw [e]
  have h2 : 2 ^ z < 256 := Nat.pow_lt_pow_right (n := 8) (by decide) hz
  exact ⟨x ^^^ 2 ^ z, Nat.xor_lt_two_pow (n := 8) hx h2, u8_xor_nat x _ hx h2⟩
set_option maxRecDepth 100000 in
theorem own_le {w : World} {base c : Nat} {p : Option Addr} {l : List Nat} (h : Own w base p c l) : l.length ≤ c := by
  by_cases h0 : l.length = 0
  · omega
  · obtain ⟨g, cap, he, _⟩ := own_form h.own (by omega)
    have := h.own
    rw [he] at this
    cases he
    exact own_le_cap this
/-- A list of bytes in a list of lists. -/
def Row2A (w : World) (b j : Nat) : Prop := ∃ M pM cM, w.cell? ⟨b, j, none⟩ = some (.slice pM (M : List Nat).length cM) ∧ By M ∧ M.length ≤ cM ∧ (pM = none → cM = 0) ∧ M.length ≤ 1024 ∧ Rd w (fun _ => True) (.slice pM M.length cM) (M.map nv)
set_option maxRecDepth 100000 in
theorem xor_byte4 {x z : Nat} (hx : x < 256) (hz : z < 4) : ∃ X : Nat, X < 256 ∧ bits .xor .u8 (x : Int) (z : Int) = (X : Int) :=
  ⟨x ^^^ z, Nat.xor_lt_two_pow (n := 8) hx (by omega), u8_xor_nat x _ hx (by omega)⟩
/-- The error of bytes. -/
def decY (M : List Nat) : Nat := decE M (vAd (adOf M))
def zAd : Ad := ⟨0, 0, false, [], [], none, 0, none, 0⟩
set_option maxRecDepth 100000 in
theorem zAd_ok (w : World) (q : Nat → Prop) : AdOk w q zAd := ⟨⟨none, 0, rfl, fun h => absurd rfl h⟩, ⟨none, 0, rfl, fun h => absurd rfl h⟩, ⟨Nat.le_refl _, by show (0 : Nat) ≤ _; omega⟩, ⟨Nat.le_refl _, by show (0 : Nat) ≤ _; omega⟩⟩
/-- What a Decode returns. -/
def DecU (M : List Nat) (w : World) (e : Ending) (w' : World) : Prop :=
  ∃ X : Ad, e = .returned (.tuple #[X.val, .int .i64 ((decY M : Nat) : Int)]) ∧ AdOk w' (fun _ => True) X ∧ w.grownBy w' none ∧ (decY M = 0 → AdIs M X) ∧ (decY M ≠ 0 → X = zAd)
set_option maxRecDepth 100000 in
theorem decU_p (M : List Nat) (hb : By M) (h1 : M.length ≤ 1024) (p : Option Addr) (c : Nat) (hc : M.length ≤ c) (q : Nat → Prop) (w : World) (hR : Rd w q (.slice p M.length c) (M.map nv)) :
    Calls Tryd.prog 21 #[.slice p M.length c] w fun e w' => DecU M w e w' :=
  (adec_any M hb h1 p c hc q w hR).mono fun e w' => by
    rintro ⟨A, hA, hok, hg, h0, hn⟩
    have e1 : vAd A = vAd (adOf M) := vAd_sm (is_sm hA (adOf_is M))
    rw [e1] at h0 hn
    by_cases h : decY M = 0
    · exact ⟨A, by rw [h]; exact h0 h, hok.mono (fun _ _ => trivial), hg, fun _ => hA, fun hh => absurd h hh⟩
    · exact ⟨zAd, hn h, zAd_ok _ _, hg, fun hh => absurd hh h, fun _ => rfl⟩
set_option maxRecDepth 100000 in
theorem decU_r (M : List Nat) (hb : By M) (h1 : M.length ≤ 1024) (p : Option Addr) (c : Nat) (hc : M.length ≤ c) (q : Nat → Prop) (w : World) (hR : Rd w q (.slice p M.length c) (M.map nv)) :
    Calls Tryd.prog 23 #[.slice p M.length c] w fun e w' => DecU M w e w' :=
  (radec_any M hb h1 p c hc q w hR).mono fun e w' => by
    rintro ⟨hg, h⟩
    rw [decEh_take, adOf_take] at h
    rcases h with ⟨h, A, hA, hok, he⟩ | ⟨h, he⟩
    · have h' : decY M = 0 := h
      exact ⟨A, by rw [h']; exact he, hok.mono (fun _ _ => trivial), hg, fun _ => is_take hA, fun hh => absurd h' hh⟩
    · exact ⟨zAd, he, zAd_ok _ _, hg, fun hh => absurd hh h, fun _ => rfl⟩
set_option maxRecDepth 100000 in
/-- Both are one advert. -/
theorem decU_sm {M : List Nat} {X Y : Ad} (h1 : decY M = 0 → AdIs M X) (h2 : decY M ≠ 0 → X = zAd) (h3 : decY M = 0 → AdIs M Y) (h4 : decY M ≠ 0 → Y = zAd) : cmpA X Y = 0 := by
  refine cmpA_zero.2 ?_
  by_cases h : decY M = 0
  · exact is_sm (h1 h) (h3 h)
  · rw [h2 h, h4 h]; exact ⟨rfl, rfl, rfl, rfl, rfl⟩
set_option maxRecDepth 100000 in
theorem decU_enc {M : List Nat} {X : Ad} (hb : By M) (h : decY M = 0) (h1 : AdIs M X) : vAd X = true ∧ encA X = M := by
  refine enc_decA hb h1 ?_
  rw [vAd_sm (is_sm h1 (adOf_is M))]
  exact h
set_option maxRecDepth 100000 in
/-- The bytes that the reference's Encode gives of an advert of the tape: in memory of their own, at most 200. -/
theorem encU (A : Ad) (q : Nat → Prop) (w : World) (hA : AdOk w q A) :
    Calls Tryd.prog 20 #[A.val] w fun e w' => ∃ (p : Option Addr) (c : Nat) (l : List Nat) (z : Int), e = .returned (.tuple #[.slice p l.length c, .int .i64 z]) ∧ Own w' w.heap.size p c l ∧ l.length ≤ 200 ∧ w.grownBy w' none :=
  (raenco_any A q w hA).mono fun e w' => by
    rintro (⟨hv, p, c, he, hO, hg⟩ | ⟨_, he, hg⟩)
    · refine ⟨p, c, encA A, 0, he, hO, ?_, hg⟩
      have h1 := (VA.of hv).ll
      have h2 := (VA.of hv).cl
      rw [enc_len2, adB_len]
      omega
    · refine ⟨none, 0, [], 1, he, ⟨⟨rfl, .inl ⟨rfl, rfl⟩⟩, fun _ => rfl, fun _ h => by cases h⟩, by simp, hg⟩
end Go.Proofs.YtpoocenooomghaaDoor

/- AdvertDecodes: the walk. -/
namespace Go.Proofs.YtpoocenooomghaaDoor
open Go.RowKit Bs
set_option maxRecDepth 100000 in
set_option maxHeartbeats 6400000 in
theorem adecodes_walk (v : Value) (L : List Nat) (pL : Option Addr) (cL : Nat) (hbL : By L) (hcL : L.length ≤ cL) (hpL : pL = none → cL = 0) (hbig : L.length ≤ 9223372036854775807) (w : World) (hv : IntsIn w v) (hRL : Rd w (· < w.heap.size) (.slice pL L.length cL) (L.map nv)) (hT : Tb w) :
    Calls Tryd.prog 5 #[v, .slice pL L.length cL] w fun e w' => e = .returned (.bool true) ∧ w.grownBy w' none := by
  obtain ⟨j0, hj0, hy0, hy1, hy2⟩ := info_parts info_u8
  have HT0 := Lib.hid hT
  have HRL := Lib.hid hRL
  have HIN := Lib.hid (And.intro hcL hpL)
  clear hT hRL hcL hpL
  go_enter Tryd.func5, Tryd.ntmps5
  go_wp2_with fail
  refine (new_any v w hv).mono ?_
  rintro e w2 ⟨rfl, hg1, hT1⟩
  have hat := hT1.lt
  go_wp2_with fail
  refine (range_any _ 1 6 (by omega) (by omega) (by omega) (by omega) _ hT1).mono ?_
  rintro e w3 ⟨x1, rfl, hx, hs3⟩
  have hX1 : I64 x1 := by unfold I64; unfold RangeOf at hx; omega
  have HS3 := Lib.hid hs3
  have G1 := Lib.hid hg1
  have HHV := Lib.hid hv
  clear hg1 hT1 hx hs3 hv
  go_wp2_with fail
  refine (adv_any _ x1 0 hX1 (by unfold I64; omega) _ HS3.out.2).mono ?_
  rintro e w4 ⟨A0, rfl, -, hA, hs4⟩
  have HS4 := Lib.hid (HS3.out.trans hs4)
  have HA := Lib.hid hA
  clear hA hs4 HS3 hX1
  go_wp2_with fail
  refine (encU A0 _ _ HA.out).mono ?_
  rintro e w4b ⟨p4, c4, l0, z0, rfl, hO, hel, hg⟩
  have hbm : Hid (MB w.heap.size w2 p4 c4 l0 w4b) := Lib.hid ⟨hO.mono HS4.out.1.size, ⟨grown_trans HS4.out.1 (grown_none hg _), HS4.out.2.keep hg⟩⟩
  have hTp4 := hbm.out.st.2
  clear hO hg HS4 HA
  obtain ⟨vA, hvA⟩ : ∃ vA, A0.val = vA := ⟨_, rfl⟩
  rw [hvA]
  clear hvA
  go_wp2_with fail
  refine (next_any _ 4 (by unfold I64; omega) _ hTp4).mono ?_
  rintro e w5 ⟨rr, rfl, hr, hs⟩
  obtain ⟨r, rfl⟩ := Int.eq_ofNat_of_zero_le hr.1
  have hr4 : r ≤ 3 := by have := hr.2.1 (by decide); omega
  have HM0 := Lib.hid (hbm.out.tape hat hs)
  clear hr hs hTp4 hbm
  go_wp2_with fail
  go_loopw [6, 8] (fun b i wr => ∃ k : Nat, k ≤ 3 ∧ i = .int .i64 (k : Int) ∧ ∃ p c l, l.length + k ≤ 203 ∧ b = .slice p l.length c ∧ Hid (MB w.heap.size w2 p c l wr)) (fun _ i _ => (RowKit.intOf i).toNat)
  case atStart => exact ⟨r, hr4, rfl, p4, c4, l0, by omega, rfl, HM0⟩
  case round =>
    obtain ⟨k, hk, rfl, p, c, l, hlk, rfl, hM⟩ := hrel
    clear HM0
    have HLK := Lib.hid hlk
    by_cases hkl : 1 ≤ k ∧ ¬ l.length = 0
    · obtain ⟨hk1, hl0⟩ := hkl
      · have hlp : 0 < l.length := by omega
        have hTp := hM.out.st.2
        obtain ⟨g, cap, he, hgb⟩ := own_form hM.out.own.own hlp
        have hp : p = some ⟨g, 0, none⟩ := by cases he; rfl
        clear he
        subst hp
        go_wp2_with fail
        refine (next_any _ 4 (by unfold I64; omega) _ hTp).mono ?_
        rintro e w6 ⟨xx, rfl, hx, hs⟩
        obtain ⟨x, rfl⟩ := Int.eq_ofNat_of_zero_le hx.1
        have hx4 : x ≤ 3 := by have := hx.2.1 (by decide); omega
        have HM1 := Lib.hid (hM.out.tape hat hs)
        have hTp6 := HM1.out.st.2
        clear hx hs hTp hM
        rcases (show x = 0 ∨ x = 1 ∨ x = 2 ∨ x = 3 by omega) with rfl | rfl | rfl | rfl
        · have HTp6 := Lib.hid hTp6
          clear hTp6
          go_wp2_with fail
          go_region_law (first
            | ((fail_if_success (have := hM7)); go_simp; go_at_call 22; refine (next_any _ _ (by unfold I64; omega) _ HTp6.out.drew).mono ?_; rintro e w7 ⟨yy, rfl, hy, hs⟩; obtain ⟨y, rfl⟩ := Int.eq_ofNat_of_zero_le hy.1; have hyl : y < l.length := (by have := hy.2.1 (by omega); omega); have hM7 := Lib.hid (HM1.out.tape hat (st_undrew hs)); have hc7 := hM7.out.own.own.cellAt y (by omega); rw [nv_at hyl] at hc7)
            | (go_simp; go_at_call 22; refine (next_any _ _ (by unfold I64; omega) _ hM7.out.st.2).mono ?_; rintro e w8 ⟨zz, rfl, hz, hs8⟩; obtain ⟨z, rfl⟩ := Int.eq_ofNat_of_zero_le hz.1; have hz8 : z < 8 := (by have := hz.2.1 (by decide); omega); have hM8 := Lib.hid (hM7.out.tape hat hs8); have hc8 := hM8.out.own.own.cellAt y (by omega); rw [nv_at hyl] at hc8; have hf8 := hM8.out.own.own.frozenAt y))
          all_goals
            obtain ⟨X, hX, hXe⟩ := xor_byte (hM8.out.own.by_ _ (List.getElem_mem hyl)) hz8
            rw [hXe]
            have HM9 := Lib.hid (hM8.out.set (j := y) (x := X) hat hX)
            clear hXe hc7 hc8 hf8 hM7 hM8
            go_wp2_with fail
            exact ⟨⟨k - 1, by omega, by congr 1; omega, some ⟨g, 0, none⟩, c, l.set y X, by rw [List.length_set]; omega, by rw [List.length_set], HM9⟩, by simp [RowKit.intOf]; omega⟩
        · go_wp2_with fail
          refine (next_any _ ((l.length : Int) + 1) (by unfold I64; omega) _ hTp6).mono ?_
          rintro e w7 ⟨yy, rfl, hy, hs⟩
          obtain ⟨y, rfl⟩ := Int.eq_ofNat_of_zero_le hy.1
          have hyl : y ≤ l.length := by have := hy.2.1 (by omega); omega
          have HM2 := Lib.hid ((HM1.out.tape hat hs).cut hyl)
          have hlc : l.length ≤ c := own_le_cap HM1.out.own.own
          have hyc : y ≤ c := by omega
          clear hy hs hTp6 HM1
          go_wp2_with fail
          exact ⟨⟨k - 1, by omega, by congr 1; omega, some ⟨g, 0, none⟩, c, l.take y, by rw [List.length_take]; omega, by rw [List.length_take, Nat.min_eq_left hyl], HM2⟩, by simp [RowKit.intOf]; omega⟩
        · go_wp2_with fail
          refine (next_any _ 2 (by unfold I64; omega) _ hTp6).mono ?_
          rintro e w7 ⟨zz, rfl, hz, hs⟩
          obtain ⟨z, rfl⟩ := Int.eq_ofNat_of_zero_le hz.1
          have hz3 : z < 2 := by have := hz.2.1 (by decide); omega
          have HM2 := Lib.hid (HM1.out.tape hat hs)
          have hwz : IntKind.u8.wrap (z : Int) = (z : Int) := by rw [IntKind.wrap_u8]; omega
          have hown := HM2.out.own.own
          have hsz := HM2.out.st.1.size
          have HL := Lib.hid hl0
          clear hz hs hTp6 HM1 hl0
          go_wp2_with (at_builtin; refine wpList_append_own _ rfl _ _ 36 rfl w2.heap.size 5 j0 (.int .u8 0) 1 1 Tryd.underlying36 hj0 hy0 hy1 hy2 rfl (by decide) _ _ _ rfl (hown.alloc _) ⟨w7.heap.size, 0, none⟩ 1 1 [.int .u8 (z : Int)] rfl rfl ?c1 ?c2 ?c3 ?c4 ?c5 ?_)
          try (case c1 => exact cell_one _ _ _)
          case c2 => first | rfl | (intro u hu; simp at hu; subst hu; rfl)
          case c3 => first | omega | (unfold maxLen; omega)
          case c4 => omega
          case c5 => first | omega | (simp; omega)
          intro v' w8 hown' hg _
          obtain ⟨p', c', hv', hM'⟩ := HM2.out.more hat (show z < 256 by omega) hown' hg
          subst hv'
          have HM3 := Lib.hid hM'
          clear hown' hg hown HM2 hM'
          go_wp2_with fail
          exact ⟨⟨k - 1, by omega, by congr 1; omega, p', c', l ++ [z], by rw [List.length_append]; simp; omega, rfl, HM3⟩, by simp [RowKit.intOf]; omega⟩
        · obtain ⟨y, hy⟩ : ∃ y, l.length = y + 1 := ⟨l.length - 1, by omega⟩
          have hyl : y < l.length := by omega
          have hM7 := Lib.hid (HM1.out.tape hat ⟨grown_drew (grown_refl w6 _), HM1.out.st.2.drew⟩)
          have hcw : ∀ wz, Hid (MB w.heap.size w2 (some ⟨g, 0, none⟩) c l wz) → wz.cell? ⟨g, y, none⟩ = some (.int .u8 ((l.getD y 0 : Nat) : Int)) ∧ wz.frozen? ⟨g, y, none⟩ = false := fun wz hz => by
            have h1 := hz.out.own.own.cellAt y (by omega)
            rw [nv_at hyl] at h1
            exact ⟨h1, hz.out.own.own.frozenAt y⟩
          have HCW := Lib.hid hcw
          obtain ⟨hc7, -⟩ := hcw _ hM7
          have hbz : l.getD y 0 < 256 := by
            rw [List.getD_eq_getElem?_getD, List.getElem?_eq_getElem hyl]
            exact hM7.out.own.by_ _ (List.getElem_mem hyl)
          obtain ⟨z0, hz0⟩ : ∃ z, l.getD y 0 = z := ⟨_, rfl⟩
          rw [hz0] at HCW hc7 hbz
          rw [hy]
          have HY := Lib.hid (And.intro hy hyl)
          have hw1 : IntKind.i64.wrap (((y + 1 : Nat) : Int) - 1) = (y : Int) := by rw [IntKind.wrap_i64]; omega
          have hw2 : IntKind.i64.wrap ((y : Int) + 1 - 1) = (y : Int) := by rw [IntKind.wrap_i64]; omega
          have hw3 : IntKind.i64.wrap (y : Int) = (y : Int) := by rw [IntKind.wrap_i64]; omega
          have hy0 : (0 : Int) ≤ (y : Int) := by omega
          have hy1 : (y : Int) < (y : Int) + 1 := by omega
          clear hTp6 hcw hy hz0 hlp hl0 hlk hyl
          go_wp2_with fail
          go_region_law (go_simp; go_at_call 22; refine (next_any _ _ (by unfold I64; omega) _ hM7.out.st.2).mono ?_; rintro e w8 ⟨zz, rfl, hz, hs8⟩; obtain ⟨z, rfl⟩ := Int.eq_ofNat_of_zero_le hz.1; have hz4 : z < 4 := (by have := hz.2.1 (by decide); omega); have hwz : IntKind.u8.wrap (z : Int) = (z : Int) := (by rw [IntKind.wrap_u8]; omega); have hM8 := Lib.hid (hM7.out.tape hat hs8); obtain ⟨hc8, hf8⟩ := HCW.out _ hM8)
          all_goals
            obtain ⟨X, hX, hXe⟩ := xor_byte4 hbz hz4
            rw [hXe]
            have HM9 := Lib.hid (hM8.out.set (j := y) (x := X) hat hX)
            clear hXe hc7 hc8 hf8 hM7 hM8
            go_wp2_with fail
            exact ⟨⟨k - 1, by omega, by congr 1; omega, some ⟨g, 0, none⟩, c, l.set y X, by rw [List.length_set]; have := HLK.out; omega, by rw [List.length_set, HY.out.1], HM9⟩, by simp [RowKit.intOf]; omega⟩
    · have GZ := Lib.hid (grown_tape G1.out hM.out.st.1)
      have hle := own_le hM.out.own
      have HRl := Lib.hid (And.intro hM.out.own.by_ (And.intro hle (And.intro hM.out.own.pc (show l.length ≤ 1024 by omega))))
      have HRr := Lib.hid hM.out.own.rd
      have hkl2 : (¬ 0 < k) ∨ (0 < k ∧ ¬ 0 < l.length) := by omega
      clear hM hle hkl
      rcases hkl2 with hk1 | ⟨hk1, hk2⟩
      all_goals
        go_upto_region 15 with fail
        have gal := World.grownBy_alloc wr (.cells #[.slice p l.length c, .slice pL L.length cL] 36) none
        have HL9 := Lib.hid (heap_alloc_new wr (.cells #[.slice p l.length c, .slice pL L.length cL] 36))
        have HR1 := Lib.hid (HRr.out.keep gal)
        have HR2 := Lib.hid ((HRL.out.keep GZ.out).keep gal)
        have G9 := Lib.hid (grown_trans GZ.out gal)
        clear gal GZ HRr
        generalize wr.alloc _ = w9 at *
        generalize wr.heap.size = bk at *
        go_wp2_with fail
        go_loopw [10] (fun i wr => ∃ j : Nat, j ≤ 2 ∧ i = .int .i64 (j : Int) ∧ Hid (w9.grownBy wr none)) (fun i _ => (2 - (RowKit.intOf i).toNat))
        case atStart => exact ⟨0, Nat.zero_le _, rfl, Lib.hid (grown_refl _ _)⟩
        case round =>
          obtain ⟨j, hj, rfl, hR⟩ := hrel
          by_cases hj2 : j < 2 ∧ L.length ≤ 400
          · obtain ⟨hj2, h400⟩ := hj2
            obtain ⟨M, pM, cM, hcell, hbM, hcM, hpM, hbigM, hRM⟩ : Row2A wr bk j := by
              have hrow := kept_row HL9.out hR.out (by simp)
              rcases (show j = 0 ∨ j = 1 by omega) with rfl | rfl
              · exact ⟨l, p, c, cell_of_row _ _ _ _ _ _ hrow, HRl.out.1, HRl.out.2.1, HRl.out.2.2.1, HRl.out.2.2.2, (HR1.out.keep hR.out).mono (fun _ _ => trivial)⟩
              · exact ⟨L, pL, cL, cell_of_row _ _ _ _ _ _ hrow, hbL, HIN.out.1, HIN.out.2, by omega, (HR2.out.keep hR.out).mono (fun _ _ => trivial)⟩
            have hD1 := decU_p M hbM hbigM pM cM hcM _ wr hRM
            have hD2 := fun (w' : World) (hR' : Rd w' (fun _ => True) (.slice pM M.length cM) (M.map nv)) => decU_r M hbM hbigM pM cM hcM _ w' hR'
            obtain ⟨y, hy⟩ : ∃ y, decY M = y := ⟨_, rfl⟩
            unfold DecU at hD1 hD2
            rw [hy] at hD1 hD2
            have HD1 := Lib.hid hD1
            have HD2 := Lib.hid hD2
            have HY := Lib.hid hy
            have HRM := Lib.hid hRM
            have HPM := Lib.hid hpM
            have HCL := Lib.hid hcell
            have j0' : (0 : Int) ≤ (j : Int) := by omega
            have j2' : (j : Int) < 2 := by omega
            clear hD1 hD2 hRM hcM hpM hbigM hy
            go_wp2_with fail
            refine HD1.out.mono ?_
            rintro e w10 ⟨A1, rfl, hok1, hg, hi1, hi2⟩
            obtain ⟨r1, q1, cp1, L1, C1, pL1, cL1, pC1, cC1⟩ := A1
            unfold Ad.val
            have hga := grown_trans hg (World.grownBy_alloc w10 (.cells #[.int .i64 r1, .int .i64 q1, .bool cp1, .slice pL1 L1.length cL1, .slice pC1 C1.length cC1] 26) none)
            have HB1 := Lib.hid (heap_alloc_new w10 (.cells #[.int .i64 r1, .int .i64 q1, .bool cp1, .slice pL1 L1.length cL1, .slice pC1 C1.length cC1] 26))
            have hcell := hga.cell HCL.out (by simp)
            have HRM1 := Lib.hid (HRM.out.keep hga)
            have HR10 := Lib.hid (grown_trans hR.out hga)
            have HO1 := Lib.hid (hok1.keep (World.grownBy_alloc w10 (.cells #[.int .i64 r1, .int .i64 q1, .bool cp1, .slice pL1 L1.length cL1, .slice pC1 C1.length cC1] 26) none))
            have HI1 := Lib.hid (And.intro hi1 hi2)
            clear hg hga HD1 HRM hok1 hi1 hi2
            go_wp2_with fail
            generalize w10.alloc (.cells #[.int .i64 r1, .int .i64 q1, .bool cp1, .slice pL1 L1.length cL1, .slice pC1 C1.length cC1] 26) = w11 at *
            refine (HD2.out _ HRM1.out).mono ?_
            rintro e w12 ⟨A2, rfl, hok2, hg, hi1, hi2⟩
            obtain ⟨r2, q2, cp2, L2, C2, pL2, cL2, pC2, cC2⟩ := A2
            unfold Ad.val
            have hga := grown_trans hg (World.grownBy_alloc w12 (.cells #[.int .i64 r2, .int .i64 q2, .bool cp2, .slice pL2 L2.length cL2, .slice pC2 C2.length cC2] 26) none)
            have HB2 := Lib.hid (heap_alloc_new w12 (.cells #[.int .i64 r2, .int .i64 q2, .bool cp2, .slice pL2 L2.length cL2, .slice pC2 C2.length cC2] 26))
            have HB1' := Lib.hid (kept_row HB1.out hga (by simp))
            have HCL2 := Lib.hid (hga.cell hcell (by simp))
            have HRM2 := Lib.hid (HRM1.out.keep hga)
            have HR12 := Lib.hid (grown_trans HR10.out hga)
            have HO1' := Lib.hid (HO1.out.keep hga)
            have HO2 := Lib.hid (hok2.keep (World.grownBy_alloc w12 (.cells #[.int .i64 r2, .int .i64 q2, .bool cp2, .slice pL2 L2.length cL2, .slice pC2 C2.length cC2] 26) none))
            have HSM : Hid (cmpA ⟨r1, q1, cp1, L1, C1, pL1, cL1, pC1, cC1⟩ ⟨r2, q2, cp2, L2, C2, pL2, cL2, pC2, cC2⟩ = 0) := Lib.hid (decU_sm (M := M) (by rw [HY.out]; exact HI1.out.1) (by rw [HY.out]; exact HI1.out.2) (by rw [HY.out]; exact hi1) (by rw [HY.out]; exact hi2))
            clear hcell hg hga HD2 HRM1 HB1 HR10 HO1 hok2 hi1 hi2
            go_upto_region 20 with fail
            generalize w12.alloc (.cells #[.int .i64 r2, .int .i64 q2, .bool cp2, .slice pL2 L2.length cL2, .slice pC2 C2.length cC2] 26) = w13 at *
            generalize w10.heap.size = b1 at *
            generalize w12.heap.size = b2 at *
            obtain ⟨a0, a1, a2, a3, a4⟩ := row5 HB1'.out
            obtain ⟨d0, d1, d2, d3, d4⟩ := row5 HB2.out
            go_wp2_with fail
            refine (rsame_any ⟨r1, q1, cp1, L1, C1, pL1, cL1, pC1, cC1⟩ ⟨r2, q2, cp2, L2, C2, pL2, cL2, pC2, cC2⟩ _ _ _ HO1'.out HO2.out).mono ?_
            rintro e w14 ⟨rfl, hg⟩
            have HR14 := Lib.hid (grown_trans HR12.out hg)
            have HCL3 := Lib.hid (hg.cell HCL2.out (by simp))
            have HRM3 := Lib.hid (HRM2.out.keep hg)
            have HO1 := Lib.hid (HO1'.out.keep hg)
            have HB1 := Lib.hid (kept_row HB1'.out hg (by simp))
            rw [HSM.out]
            clear a0 a1 a2 a3 a4 d0 d1 d2 d3 d4 hg HR12 HCL2 HRM2 HO1' HO2 HB1' HB2 HSM
            obtain ⟨a0, a1, a2, a3, a4⟩ := row5 HB1.out
            by_cases hy0 : y = 0
            · subst hy0
              have hEE := decU_enc hbM HY.out (HI1.out.1 rfl)
              have HQ := Lib.hid hEE
              have hT14 := HT0.out.keep (grown_trans G9.out HR14.out)
              have HT14 := Lib.hid hT14
              clear hEE hT14
              go_wp2_with fail
              refine (aenc_any ⟨r1, q1, cp1, L1, C1, pL1, cL1, pC1, cC1⟩ _ _ HO1.out HT14.out).mono ?_
              rintro e w15 (⟨_, g2, rfl, hB, hge, hg⟩ | ⟨h, _⟩)
              · have HR15 := Lib.hid (grown_trans HR14.out hg)
                have hcl2 := hg.cell HCL3.out (by simp)
                have hBd : Blk w15.drew g2 (encA ⟨r1, q1, cp1, L1, C1, pL1, cL1, pC1, cC1⟩) := hB.keep (grown_drew (grown_refl w15 none))
                have E1 := conv_nv (l := encA ⟨r1, q1, cp1, L1, C1, pL1, cL1, pC1, cC1⟩) (k := (encA ⟨r1, q1, cp1, L1, C1, pL1, cL1, pC1, cC1⟩).length) (pk_by _) rfl (hBd.rd (fun _ => True) trivial (encA ⟨r1, q1, cp1, L1, C1, pL1, cL1, pC1, cC1⟩).length) (by simp)
                have E2 := conv_nv (l := M) (k := M.length) hbM rfl ((HRM3.out.keep hg).keep (grown_drew (grown_refl w15 none))) HPM.out
                rw [HQ.out.2] at E1 ⊢
                clear hB hBd hge hg a0 a1 a2 a3 a4
                go_wp2_with fail
                have hcl3 := (grown_drew (grown_refl w15 none)).cell hcl2 (by simp)
                go_region_held3 (fun w' => w'.cell? ⟨bk, j, none⟩ = some (.slice pM M.length cM) ∧ (convert 36 9 (.slice pM M.length cM)).run Tryd.prog w' = .ok (.string (bs M)) w' ∧ (convert 36 9 (.slice (some ⟨g2, 0, none⟩) M.length M.length)).run Tryd.prog w' = .ok (.string (bs M)) w')
                  (first | with_reducible exact ⟨hcl3, E2, E1⟩)
                  (first | fail)
                all_goals
                  go_wp2_with fail
                  first
                    | exact ⟨⟨j + 1, by omega, by go_num, hid_more HR15 (grown_drew (grown_refl w15 none))⟩, by simp [RowKit.intOf]; omega⟩
                    | (go_roundw
                       case rel => exact ⟨j + 1, by omega, by first | rfl | go_num, hid_more HR15 (grown_drew (grown_refl w15 none))⟩
                       case measure => simp [RowKit.intOf]; omega)
              · rw [HQ.out.1] at h; cases h
            · have hyb : (((y : Nat) : Int) == 0) = false := by simpa using hy0
              have hyn : ¬ ((y : Nat) : Int) = 0 := by omega
              go_wp2_with fail
              first
                | exact ⟨⟨j + 1, by omega, by go_num, HR14⟩, by simp [RowKit.intOf]; omega⟩
                | (go_roundw
                   case rel => exact ⟨j + 1, by omega, by first | rfl | go_num, HR14⟩
                   case measure => simp [RowKit.intOf]; omega)
          · have hT9 := HT0.out.keep (grown_trans G9.out hR.out)
            have GE := Lib.hid (grown_trans G9.out hR.out)
            have hj3 : (¬ j < 2) ∨ (j < 2 ∧ ¬ L.length ≤ 400) := by omega
            clear hR hj2
            rcases hj3 with hj3 | ⟨hj3, hj4⟩
            all_goals
              go_wp2_with fail
              refine (aawake_any _ hT9).mono ?_
              rintro e w14 ⟨rfl, hg⟩
              have G8 := Lib.hid (grown_trans GE.out hg)
              clear hg
              go_wp2_with fail
              go_ret
              exact ⟨rfl, G8.out⟩
end Go.Proofs.YtpoocenooomghaaDoor

/- A slice of bytes that comes in as an argument: its bytes as a list of numbers, and what was read of it. -/
namespace Go.Proofs.YtpoocenooomghaaDoor
open Go.ChangeShapes Go.WideShapes Go.ChangeAt Go.RowKit Bs
section
variable {H : Type} {enc : TypeId × Value → H} {W : World} {base : Nat} {v : Value} {d : DataW H} {ps : List MemPlace}
set_option maxRecDepth 100000 in
theorem opn_bytesW (hval : Value.okWide Tryd.prog W .any base 36 v) (h : DataW.Trod enc Tryd.prog W 0 (fun _ => true) true 36 v d ps) :
    ∃ (l : List Nat) (p : Option Addr) (c : Nat), v = .slice p l.length c ∧ By l ∧ Rd W (· < W.heap.size) (.slice p l.length c) (l.map nv) ∧ (p = none → c = 0) ∧ l.length ≤ c ∧ c ≤ 9223372036854775807 ∧
      (l = [] ∨ ∃ es rs, d = .slice es rs ∧ es.length = l.length) := by
  obtain ⟨p0, n0, c0, rfl⟩ := okWide_slice Tryd.underlying36 hval
  obtain ⟨fuel, hf⟩ := h
  rcases open_ints Tryd.underlying36 Tryd.underlying5 kit_cellsByte hf with ⟨hcs, _⟩ | ⟨a, len, cap, zs, hcs, _, hl, hm, hz, hx, hcell, hw⟩
  · simp [Value.cells] at hcs
    obtain ⟨rfl, rfl, rfl⟩ := hcs
    exact ⟨[], none, 0, rfl, (fun x hx => by cases hx), Rd.nil_ _ _ _ _, fun _ => rfl, Nat.le_refl _, by omega, Or.inl rfl⟩
  · simp [Value.cells] at hcs
    obtain ⟨rfl, rfl, rfl⟩ := hcs
    rw [if_pos rfl] at hz
    have hwz : ∀ z ∈ zs, 0 ≤ z ∧ z < 256 := by
      intro z hzm
      have := hw z hzm
      simp [Lit.wf, IntKind.min, IntKind.max, IntKind.bits, IntKind.signed] at this
      omega
    have hlen : ((zs.take n0).map Int.toNat).length = n0 := by rw [List.length_map, List.length_take]; omega
    refine ⟨(zs.take n0).map Int.toNat, some a, c0, by rw [hlen], ?_, ?_, (by intro e; cases e), by rw [hlen]; exact hl, hm, Or.inr ⟨_, _, congrArg Prod.fst hx, ?_⟩⟩
    · intro x hx
      obtain ⟨z, hzm, rfl⟩ := List.mem_map.1 hx
      have := hwz z (List.mem_of_mem_take hzm)
      omega
    · refine ⟨some a, c0, by simp, fun hne => ?_⟩
      have hpos : 0 < zs.length := by
        rcases Nat.eq_zero_or_pos zs.length with h0 | h0
        · rw [List.eq_nil_of_length_eq_zero h0] at hne
          simp at hne
        · exact h0
      obtain ⟨b, off, rfl, hcc⟩ := ints_at hcell hpos
      refine ⟨b, off, rfl, World.block_lt_of_cell? W ⟨b, off + 0, none⟩ (hcc 0 hpos), fun i x hi => ?_⟩
      obtain ⟨hi1, hi2⟩ := List.getElem?_eq_some_iff.1 hi
      rw [List.length_map, hlen] at hi1
      have hil : i < zs.length := by omega
      rw [hcc i hil]
      rw [List.getElem_map, List.getElem_map, List.getElem_take] at hi2
      rw [← hi2, List.getD_eq_getElem?_getD, List.getElem?_eq_getElem hil]
      have := hwz _ (List.getElem_mem hil)
      show some (Value.int .u8 zs[i]) = some (.int .u8 ((zs[i].toNat : Nat) : Int))
      rw [Int.toNat_of_nonneg this.1]
    · rw [hlen]
      simp [Go.ChangeShapes.lits, List.length_take]
      omega
end

set_option maxRecDepth 100000 in
theorem kit_weight {H : Type} {P : Program} : ∀ (ts : List TypeId) (ds : List (DataW H)) (i : Nat) (t : TypeId) (d : DataW H), (DataW.weightsEach P ts ds).all (· ≤ reachBytes) = true → ts[i]? = some t → ds[i]? = some d → (d.weights P t).all (· ≤ reachBytes) = true
  | [], _, i, _, _, _, h, _ => by simp at h
  | _ :: _, [], i, _, _, _, _, h => by simp at h
  | t0 :: ts, d0 :: ds, 0, t, d, h, ht, hd => by
    obtain rfl : t0 = t := by simpa using ht
    obtain rfl : d0 = d := by simpa using hd
    rw [show DataW.weightsEach P (t0 :: ts) (d0 :: ds) = d0.weights P t0 ++ DataW.weightsEach P ts ds by rw [DataW.weightsEach], List.all_append] at h
    exact (Bool.and_eq_true _ _ ▸ h).1
  | t0 :: ts, d0 :: ds, i + 1, t, d, h, ht, hd => by
    rw [show DataW.weightsEach P (t0 :: ts) (d0 :: ds) = d0.weights P t0 ++ DataW.weightsEach P ts ds by rw [DataW.weightsEach], List.all_append] at h
    exact kit_weight ts ds i t d (Bool.and_eq_true _ _ ▸ h).2 (by simpa using ht) (by simpa using hd)
set_option maxRecDepth 100000 in
theorem kit_byte : Tryd.prog.bytesOf 5 = 1 := by kernel_rfl
set_option maxRecDepth 100000 in
/-- What the row says of the arguments' bytes: the length of a slice of bytes. -/
theorem kit_bytes {H : Type} {ts : List TypeId} {ds : List (DataW H)} {d : DataW H} {l : List Nat} (i : Nat) (h : (DataW.weightsEach Tryd.prog ts ds).all (· ≤ reachBytes) = true) (ht : ts[i]? = some 36) (hd : ds[i]? = some d) (hl : l = [] ∨ ∃ es rs, d = .slice es rs ∧ es.length = l.length) : l.length ≤ 140737488351232 := by
  rcases hl with rfl | ⟨es, rs, rfl, e⟩
  · simp
  have h1 := kit_weight _ _ _ _ _ h ht hd
  rw [DataW.weights, Tryd.underlying36] at h1
  simp only [List.all_cons, Bool.and_eq_true, decide_eq_true_eq, kit_byte] at h1
  have := h1.1
  unfold reachBytes at this
  omega
end Go.Proofs.YtpoocenooomghaaDoor

/- Parts of the proof, packed: DbOfLaw. -/
import Derived.Test.YtnpkihioklpnmaaDo8
import Derived.Test.YtnpkihioklpnmaaDo10
import Derived.Test.YtnpkihioklpnmaaDo11
import Derived.Test.YtnpkihioklpnmaaDo13
import Derived.Test.YtnpkihioklpnmaaDo19
import Derived.Test.YtnpkihioklpnmaaDo18
/- The law DatabaseOf. -/
namespace Go.Proofs.Ytnpkihioklpnmaa
open Go.RowKit Bs
set_option maxRecDepth 100000 in
theorem Tp.otherD {w w' : World} {a b : Nat} (h : Tp w a) (g : w.grownBy w' (some b)) (hb : a < b) : Tp w' a := by
  have hlt := h.lt
  obtain ⟨v, n, i, T⟩ := h
  have hbk : w'.heap[a]? = w.heap[a]? := g.block a hlt (fun e => by have := Option.some.inj e; omega)
  refine ⟨v, n, i, (World.cell?_of_block (a := ⟨a, 0, none⟩) hbk).trans T.l, (World.cell?_of_block (a := ⟨a, 1, none⟩) hbk).trans T.p, (World.frozen?_of_block (a := ⟨a, 1, none⟩) hbk).trans T.fr, ?_, T.le, T.len⟩
  obtain ⟨p, c, hv, hc⟩ := T.ints
  refine ⟨p, c, hv, fun hn => ?_⟩
  obtain ⟨b1, off, hp, hb1, hx⟩ := hc hn
  refine ⟨b1, off, hp, hb1, fun i hi => ?_⟩
  obtain ⟨x, hx1, hcell⟩ := hx i hi
  exact ⟨x, hx1, g.cell hcell (fun e => by have : b1 = b := Option.some.inj e; omega)⟩
/-- What memory holds: the tape a, the topology in the box g, the database in the box d. -/
structure OGd (W : World) (a g d : Nat) (T : Tg) (l : List Ad) (p : Option Addr) (c N : Nat) (w : World) : Prop where
  tb : w.heap[g]? = some (.cells #[.slice T.pR T.R.length T.cR, .slice T.pL T.L.length T.cL] 59 (0, 0))
  tg : TgOk w (fun x => x ≠ a ∧ x ≠ d ∧ x < N) T
  db : w.heap[d]? = some (.cells #[.slice p l.length c] 25 (0, 0))
  rd : RdA w (fun x => x ≠ a ∧ x ≠ d ∧ x < N) (.slice p l.length c) l
  tp : Tp w a
  gr : W.grownBy w none
  lo : W.heap.size ≤ a ∧ a < d ∧ g ≠ a ∧ g ≠ d
  n : g < N ∧ d < N ∧ N ≤ w.heap.size
  cc : (p = none → c = 0) ∧ l.length ≤ c ∧ c ≤ 9223372036854775807
section
variable {W w w1 : World} {a g d N : Nat} {T : Tg} {l m : List Ad} {p p' : Option Addr} {c c' : Nat}
set_option maxRecDepth 100000 in
theorem OGd.keep (h : OGd W a g d T l p c N w) (k : w.grownBy w1 none) : OGd W a g d T l p c N w1 :=
  ⟨kept_row h.tb k (by simp), h.tg.keep k, kept_row h.db k (by simp), h.rd.keep k, h.tp.keep k, grown_trans h.gr k, h.lo, ⟨h.n.1, h.n.2.1, Nat.le_trans h.n.2.2 k.size⟩, h.cc⟩
set_option maxRecDepth 100000 in
theorem OGd.tape (h : OGd W a g d T l p c N w) (k : St a w w1) : OGd W a g d T l p c N w1 :=
  ⟨kept_row h.tb k.1 (fun e => h.lo.2.2.1 (Option.some.inj e)), h.tg.grown k.1 (fun x hx e => hx.1 (Option.some.inj e)), kept_row h.db k.1 (fun e => by have := Option.some.inj e; have := h.lo; omega), h.rd.grown k.1 (fun x hx e => hx.1 (Option.some.inj e)), k.2, grown_new h.gr k.1 h.lo.1, h.lo, ⟨h.n.1, h.n.2.1, Nat.le_trans h.n.2.2 k.1.size⟩, h.cc⟩
set_option maxRecDepth 100000 in
theorem OGd.new {b : Nat} (h : OGd W a g d T l p c N w) (k : w.grownBy w1 (some b)) (hb : N ≤ b) : OGd W a g d T l p c N w1 := by
  have hn := h.n
  have hl := h.lo
  exact ⟨kept_row h.tb k (fun e => by have := Option.some.inj e; omega), h.tg.grown k (fun x hx e => by have := Option.some.inj e; omega), kept_row h.db k (fun e => by have := Option.some.inj e; omega), h.rd.grown k (fun x hx e => by have := Option.some.inj e; omega), h.tp.otherD k (by omega), grown_new h.gr k (by omega), h.lo, ⟨h.n.1, h.n.2.1, Nat.le_trans h.n.2.2 k.size⟩, h.cc⟩
set_option maxRecDepth 100000 in
theorem OGd.up (h : OGd W a g d T l p c N w) : OGd W a g d T l p c w.heap.size w := by
  have hn := h.n
  exact ⟨h.tb, h.tg.mono (fun x hx => by omega), h.db, h.rd.mono (fun x hx => by omega), h.tp, h.gr, h.lo, ⟨by omega, by omega, Nat.le_refl _⟩, h.cc⟩
set_option maxRecDepth 100000 in
/-- Another database is stored. -/
theorem OGd.put {M : Nat} (h : OGd W a g d T l p c N w) (hm : RdA w (fun x => N ≤ x ∧ x < M) (.slice p' m.length c') m) (hM : N ≤ M ∧ M ≤ w.heap.size) (hc : (p' = none → c' = 0) ∧ m.length ≤ c' ∧ c' ≤ 9223372036854775807) : OGd W a g d T m p' c' M (w.setCell ⟨d, 0, none⟩ (.slice p' m.length c')) := by
  have hn := h.n
  have hl := h.lo
  have k := grown_setCell w ⟨d, 0, none⟩ (.slice p' m.length c')
  have s1 := heap_setCell_same w d 0 _ _ (.slice p' m.length c') h.db
  exact ⟨kept_row h.tb k (fun e => by have e : g = d := Option.some.inj e; omega), (h.tg.grown k (fun x hx e => by have e : x = d := Option.some.inj e; omega)).mono (fun x hx => by omega), s1, (hm.grown k (fun x hx e => by have e : x = d := Option.some.inj e; omega)).mono (fun x hx => by omega), h.tp.otherD k hl.2.1, grown_new h.gr k (by show W.heap.size ≤ d; omega), h.lo, ⟨by omega, by omega, Nat.le_trans hM.2 k.size⟩, hc⟩
set_option maxRecDepth 100000 in
theorem NX.tape {b : Nat} {cs : Array Value} {t : TypeId} (h : NX W b cs t w) (k : St a w w1) (ha : a < W.heap.size) : NX W b cs t w1 := ⟨kept_row h.ab k.1 (fun e => by have := Option.some.inj e; have := h.lo; omega), h.lo⟩
set_option maxRecDepth 100000 in
theorem nx_startD (cs : Array Value) (t : TypeId) (h : w.heap.size ≤ w1.heap.size) : ∀ b, b = w1.heap.size → NX w b cs t (w1.alloc (.cells cs t)) := by
  rintro b rfl
  exact ⟨heap_alloc_new _ _, h⟩
end
set_option maxRecDepth 100000 in
theorem ofE_zero {R : List Rt} {L : List Lk} (ok : okT R L = true) (h23 : R.length ≤ 23) {t : Rt} (ht : t ∈ R) {s : Int} (hs : 1 ≤ s ∧ s ≤ 5) : ofE R L t.id s [] = 0 := by
  have ho := okT_all ok
  have h1 : chk R L = 0 := by unfold okT at ok; simpa using ok
  have h2 : hasV R L t.id = true := by unfold hasV; rw [ok, Bool.true_and]; exact List.any_eq_true.2 ⟨t, ht, decide_eq_true rfl⟩
  have h3 : vAd (ofA R L t.id s []) = true := of_valid ho h23 ht rfl hs rfl rfl
  unfold ofE
  rw [h1, h2, h3]
  rfl
/-- What a router's own advert is. -/
structure OwnA (L : List Lk) (t : Rt) (X : Ad) : Prop where
  k : k3 X = k3R L t
  v : vAd X = true
  c : X.C = []
set_option maxRecDepth 100000 in
theorem ownA_of {R : List Rt} {L : List Lk} (ok : okT R L = true) (h23 : R.length ≤ 23) {t : Rt} (ht : t ∈ R) {s : Int} (hs : 1 ≤ s ∧ s ≤ 5) {X : Ad} (h : smA X (ofA R L t.id s [])) : OwnA L t X := by
  have ho := okT_all ok
  obtain ⟨h1, h2, h3, h4, h5⟩ := h
  refine ⟨?_, of_valid ho h23 ht h1 (by rw [h2]; exact hs) h4 h5, h5⟩
  unfold k3 k3R
  rw [h1, h3, h4]
  show (t.id, capV R L t.id, reL L t.id) = _
  rw [cap_of ho ok ht]
set_option maxRecDepth 100000 in
theorem ofD_put {R : List Rt} {L : List Lk} (ok : okT R L = true) {i : Nat} {l m : List Ad} {t : Rt} {X : Ad} (h : OfD R L i l) (ht : R[i]? = some t) (hX : OwnA L t X) (hm : m.map fz = (putV l X).map fz) : OfD R L (i + 1) m := by
  have ho := okT_all ok
  have hr : X.r = t.id := congrArg Prod.fst hX.k
  have hlt : ∀ A ∈ l, A.r < X.r := fun A hA => by rw [hr]; exact h.lt ho ht A hA
  have hf : fndA l X.r = none := by
    cases hf : fndA l X.r with
    | none => rfl
    | some B =>
      obtain ⟨h1, h2⟩ := fndA_some hf
      have := hlt B h1
      omega
  have hp : putV l X = l ++ [X] := by
    unfold putV pD chg
    rw [okD_of (h.ok ho), hX.v, hf]
    exact (if_pos rfl).trans (putA_end hlt)
  rw [hp] at hm
  have h2 := h.add ht hX.k hX.v
  refine ⟨?_, fun A hA => ?_⟩
  · rw [← h2.e]
    have h3 := congrArg (List.map k3) hm
    rw [List.map_map, List.map_map] at h3
    exact h3
  · obtain ⟨B, hB, e⟩ := fz_mem hm hA
    have hv := h2.v B hB
    rw [← vAd_sm2 (fz_eq.1 e)]
    exact hv
set_option maxRecDepth 100000 in
theorem chk_idsD {R R0 : List Rt} {L : List Lk} (h : R.map (·.id) = R0.map (·.id)) : chk R L = chk R0 L := by
  have h1 : R.length = R0.length := by have := congrArg List.length h; simpa using this
  have h2 : ∀ R : List Rt, R.any wrId = (R.map (·.id)).any (fun x => !decide (1 ≤ x ∧ x ≤ 99)) := fun R => by rw [List.any_map]; rfl
  have h3 : ∀ R : List Rt, ascB ltR R = ascB (fun x y : Int => decide (x < y)) (R.map (·.id)) := by
    intro R
    induction R with
    | nil => rfl
    | cons a t ih =>
      cases t with
      | nil => rfl
      | cons b t => rw [List.map_cons, List.map_cons, ascB, ascB, ih]; rfl
  have h4 : ∀ x, hasR R x = hasR R0 x := fun x => by
    have e : ∀ R : List Rt, hasR R x = (R.map (·.id)).any (fun y => decide (y = x)) := fun R => by unfold hasR; rw [List.any_map]; rfl
    rw [e, e, h]
  have h5 : unk R = unk R0 := by funext l; unfold unk; rw [h4, h4]
  unfold chk
  rw [h1, h2, h2, h3, h3, h, h5]
/-- The routers outside the component. -/
def outL (cl : List Int) (R : List Rt) : List Int := (R.filter (fun t => !hasI cl t.id)).map (·.id)
set_option maxRecDepth 100000 in
theorem outL_step {cl : List Int} {R : List Rt} {k : Nat} {t : Rt} (h : R[k]? = some t) : outL cl (R.take (k + 1)) = outL cl (R.take k) ++ (if hasI cl t.id = true then [] else [t.id]) := by
  unfold outL
  rw [List.take_add_one, h, List.filter_append, List.map_append]
  congr 1
  show ([t].filter _).map _ = _
  rw [List.filter_cons]
  cases hasI cl t.id <;> rfl
set_option maxRecDepth 100000 in
theorem outL_len (cl : List Int) (R : List Rt) : (outL cl R).length ≤ R.length := by unfold outL; rw [List.length_map]; exact List.length_filter_le _ _
set_option maxRecDepth 100000 in
theorem outL_has {cl : List Int} {R : List Rt} : ∀ t ∈ R, hasI (outL cl R) t.id = !hasI cl t.id := by
  intro t ht
  rw [Bool.eq_iff_iff, hasI_mem]
  unfold outL
  rw [List.mem_map]
  constructor
  · rintro ⟨s, hs, e⟩
    rw [List.mem_filter] at hs
    rw [← e]; exact hs.2
  · intro h
    exact ⟨t, List.mem_filter.2 ⟨ht, h⟩, rfl⟩
set_option maxRecDepth 100000 in
set_option maxHeartbeats 25600000 in
theorem ofdb_walk (v : Value) (w : World) (hv : IntsIn w v) :
    Calls Try.prog 10 #[v] w fun e w' => e = .returned (.bool true) ∧ w.grownBy w' none := by
  obtain ⟨i0, hi, hz0, hz1, hz2⟩ := info_parts info_int
  go_enter Try.func10, Try.ntmps10
  go_wp2_with fail
  refine (new_any v w hv).mono ?_
  rintro e w1 ⟨rfl, hg1, hT1⟩
  obtain ⟨a, ha⟩ : ∃ a, w.heap.size = a := ⟨_, rfl⟩
  have HG : Hid (w.grownBy w1 none ∧ w.heap.size ≤ a) := Lib.hid ⟨hg1, Nat.le_of_eq ha⟩
  rw [ha] at hT1 ⊢
  have HT := Lib.hid hT1
  clear hg1 hT1 ha hv
  go_wp2_with fail
  refine (mixed_any a 7 (by decide) (by decide) _ HT.out).mono ?_
  rintro e w2 ⟨R0, R, L, vR, vL, rfl, hoR, hoL, htop, hids, hs⟩
  obtain ⟨pR, cR, pL, cL, rfl, rfl, ht⟩ := tg_of_own hoR hoL
  clear hoR hoL
  obtain ⟨T, rfl, rfl, rfl, rfl, rfl, rfl⟩ : ∃ T : Tg, T.R = R ∧ T.L = L ∧ T.pR = pR ∧ T.cR = cR ∧ T.pL = pL ∧ T.cL = cL := ⟨⟨R, L, pR, cR, pL, cL⟩, rfl, rfl, rfl, rfl, rfl, rfl⟩
  replace ht : TgOk w2 (fun b => w1.heap.size ≤ b ∧ b < w2.heap.size) T := ht
  have ok : okT T.R T.L = true := by unfold okT; rw [chk_idsD hids, (htop.2.2.2.2 (by omega)).1]; rfl
  have hR1 : 1 ≤ T.R.length := by have := congrArg List.length hids; simp only [List.length_map] at this; have := htop.1; omega
  have hR7 : T.R.length ≤ 7 := by have := congrArg List.length hids; simp only [List.length_map] at this; have := (htop.2.2.2.2 (by omega)).2; omega
  have HOK := Lib.hid ok
  obtain ⟨k1, k2, k3', k4⟩ := two_boxes w2 #[.slice T.pR T.R.length T.cR, .slice T.pL T.L.length T.cL] #[.slice none 0 0] 59 25
  have halt := HT.out.lt
  have hsz := hs.1.size
  have halt2 := hs.2.lt
  have K0 : Hid (OGd w a w2.heap.size (w2.heap.size + 1) T [] none 0 (w2.heap.size + 2) _) := Lib.hid ⟨k1, (ht.keep k3').mono (fun x hx => by omega), k2, rda_nil _ _, hs.2.keep k3', grown_trans (grown_new HG.out.1 hs.1 HG.out.2) k3', ⟨HG.out.2, by omega, by omega, by omega⟩, ⟨by omega, by omega, by rw [k4]; omega⟩, ⟨fun _ => rfl, Nat.le_refl _, by omega⟩⟩
  have D0 : Hid (OfD T.R T.L 0 []) := Lib.hid OfD.nil
  clear htop hids hs ht k1 k2 k3' k4 halt hsz halt2 HT HG ok
  go_upto_region 4 with fail
  generalize hw : (w2.alloc _).alloc _ = w3 at *
  generalize w2.heap.size = g at *
  clear hw w2
  generalize g + 1 = d at *
  generalize g + 2 = N0 at *
  go_wp2_with fail
  go_loopw [6] (fun x wr => ∃ (i : Nat) (l : List Ad) (p : Option Addr) (c N : Nat), i ≤ T.R.length ∧ x = .int .i64 (i : Int) ∧ Hid (OfD T.R T.L i l) ∧ Hid (OGd w a g d T l p c N wr)) (fun x _ => T.R.length - (RowKit.intOf x).toNat)
  case atStart => exact ⟨0, [], none, 0, N0, Nat.zero_le _, rfl, D0, K0⟩
  case round =>
  obtain ⟨i, l, p, c, N1, hi6, rfl, HD1, KK⟩ := hrel
  clear K0 D0 N0
  obtain ⟨wq, hwq⟩ : ∃ wq, wq = wr := ⟨_, rfl⟩
  rw [← hwq] at KK ⊢
  clear hwq
  have K := Lib.hid KK.out.up
  clear KK N1
  obtain ⟨N, hN⟩ : ∃ N, wq.heap.size = N := ⟨_, rfl⟩
  rw [hN] at K
  have HNN := Lib.hid hN
  have HAL : Hid (a < wq.heap.size) := Lib.hid K.out.tp.lt
  clear hN
  obtain ⟨t0, t1⟩ := row_cells K.out.tb
  by_cases hlt : i < T.R.length
  · obtain ⟨-, g1, o1, e1, -, -⟩ := rdr_cells K.out.tg.r (by omega)
    obtain ⟨t, ht⟩ : ∃ t, T.R[i]? = some t := ⟨_, List.getElem?_eq_getElem hlt⟩
    have HTT := Lib.hid ht
    have HTM := Lib.hid (List.mem_of_getElem? ht)
    have HE1 := Lib.hid e1
    clear e1 ht
    go_upto_region 7 with fail
    clear t0 t1
    go_cut [7, 8] from 24 to 37 (fun u o wx => ∃ (b : Nat) (X : Ad), u = .pointer (some ⟨b, 0, none⟩) ∧ o = .int .i64 0 ∧ Hid (OGd w a g d T l p c N wx ∧ AB b X wx ∧ AdNl X ∧ OwnA T.L t X))
    case first =>
      have HD : Hid (OGd w a g d T l p c N wq.drew ∧ wq.heap.size ≤ wq.drew.heap.size) := Lib.hid ⟨K.out.keep (grown_drew (grown_refl wq none)), Nat.le_refl _⟩
      refine wp_region_held_drew (S := fun w' => Hid (OGd w a g d T l p c N w' ∧ wq.heap.size ≤ w'.heap.size)) (by kernel_rfl) (HD) (fun hHeld => ?_)
      generalize hwd : wq.drew = wd at *
      clear hwd
      refine wpAnyH_take (i := 0) (oi := { dst := some 25, op := Op.load 59 (Operand.tmp 4), type := 59, pos := "law.go:188", after := #[], guard := none }) (v := ?_) rfl (by kernel_rfl) (by kernel_rfl) (by kernel_rfl) (fun _ _ _ h => h) (Or.inl ⟨by rfl, ?_⟩) hHeld ?_
      rotate_left 1
      · intro u hSu
        obtain ⟨t0, t1⟩ := row_cells hSu.out.1.tb
        have hrr := hSu.out.1.tg.r
        rw [HE1.out] at hrr t0
        obtain ⟨r0, r1⟩ := rdr_at2 hrr HTT.out
        go_simp
        first | done | with_reducible rfl
      (try simp only [Act.put, List.setIfInBounds_toArray, List.set_cons_zero, List.set_cons_succ])
      refine wpAnyH_take (i := 1) (oi := { dst := some 26, op := Op.fieldAddr 59 (Operand.tmp 4) 0, type := 0, pos := "law.go:188", after := #[], guard := none }) (v := ?_) rfl (by kernel_rfl) (by kernel_rfl) (by kernel_rfl) (fun _ _ _ h => h) (Or.inl ⟨by rfl, ?_⟩) hHeld ?_
      rotate_left 1
      · intro u hSu
        obtain ⟨t0, t1⟩ := row_cells hSu.out.1.tb
        have hrr := hSu.out.1.tg.r
        rw [HE1.out] at hrr t0
        obtain ⟨r0, r1⟩ := rdr_at2 hrr HTT.out
        go_simp
        first | done | with_reducible rfl
      (try simp only [Act.put, List.setIfInBounds_toArray, List.set_cons_zero, List.set_cons_succ])
      refine wpAnyH_take (i := 2) (oi := { dst := some 27, op := Op.load 56 (Operand.tmp 26), type := 56, pos := "law.go:188", after := #[{ on := 1, ground := Ground.data }], guard := none }) (v := ?_) rfl (by kernel_rfl) (by kernel_rfl) (by kernel_rfl) (fun _ _ _ h => h) (Or.inl ⟨by rfl, ?_⟩) hHeld ?_
      rotate_left 1
      · intro u hSu
        obtain ⟨t0, t1⟩ := row_cells hSu.out.1.tb
        have hrr := hSu.out.1.tg.r
        rw [HE1.out] at hrr t0
        obtain ⟨r0, r1⟩ := rdr_at2 hrr HTT.out
        go_simp
        first | done | with_reducible rfl
      (try simp only [Act.put, List.setIfInBounds_toArray, List.set_cons_zero, List.set_cons_succ])
      refine wpAnyH_take (i := 3) (oi := { dst := some 28, op := Op.move (Operand.tmp 6), type := 3, pos := "law.go:188", after := #[], guard := none }) (v := ?_) rfl (by kernel_rfl) (by kernel_rfl) (by kernel_rfl) (fun _ _ _ h => h) (Or.inl ⟨by rfl, ?_⟩) hHeld ?_
      rotate_left 1
      · intro u hSu
        obtain ⟨t0, t1⟩ := row_cells hSu.out.1.tb
        have hrr := hSu.out.1.tg.r
        rw [HE1.out] at hrr t0
        obtain ⟨r0, r1⟩ := rdr_at2 hrr HTT.out
        go_simp
        first | done | with_reducible rfl
      (try simp only [Act.put, List.setIfInBounds_toArray, List.set_cons_zero, List.set_cons_succ])
      refine wpAnyH_take (i := 4) (oi := { dst := some 29, op := Op.indexAddr 56 (Operand.tmp 27) (Operand.tmp 28), type := 0, pos := "law.go:188", after := #[{ on := 2, ground := Ground.data }, { on := 3, ground := Ground.data }], guard := none }) (v := ?_) rfl (by kernel_rfl) (by kernel_rfl) (by kernel_rfl) (fun _ _ _ h => h) (Or.inl ⟨by rfl, ?_⟩) hHeld ?_
      rotate_left 1
      · intro u hSu
        obtain ⟨t0, t1⟩ := row_cells hSu.out.1.tb
        have hrr := hSu.out.1.tg.r
        rw [HE1.out] at hrr t0
        obtain ⟨r0, r1⟩ := rdr_at2 hrr HTT.out
        go_simp
        first | done | with_reducible rfl
      (try simp only [Act.put, List.setIfInBounds_toArray, List.set_cons_zero, List.set_cons_succ])
      refine wpAnyH_take (i := 5) (oi := { dst := some 30, op := Op.fieldAddr 69 (Operand.tmp 29) 0, type := 0, pos := "law.go:188", after := #[{ on := 4, ground := Ground.data }], guard := none }) (v := ?_) rfl (by kernel_rfl) (by kernel_rfl) (by kernel_rfl) (fun _ _ _ h => h) (Or.inl ⟨by rfl, ?_⟩) hHeld ?_
      rotate_left 1
      · intro u hSu
        obtain ⟨t0, t1⟩ := row_cells hSu.out.1.tb
        have hrr := hSu.out.1.tg.r
        rw [HE1.out] at hrr t0
        obtain ⟨r0, r1⟩ := rdr_at2 hrr HTT.out
        go_simp
        first | done | with_reducible rfl
      (try simp only [Act.put, List.setIfInBounds_toArray, List.set_cons_zero, List.set_cons_succ])
      refine wpAnyH_take (i := 6) (oi := { dst := some 31, op := Op.load 3 (Operand.tmp 30), type := 3, pos := "law.go:188", after := #[{ on := 5, ground := Ground.data }], guard := none }) (v := ?_) rfl (by kernel_rfl) (by kernel_rfl) (by kernel_rfl) (fun _ _ _ h => h) (Or.inl ⟨by rfl, ?_⟩) hHeld ?_
      rotate_left 1
      · intro u hSu
        obtain ⟨t0, t1⟩ := row_cells hSu.out.1.tb
        have hrr := hSu.out.1.tg.r
        rw [HE1.out] at hrr t0
        obtain ⟨r0, r1⟩ := rdr_at2 hrr HTT.out
        go_simp
        first | done | with_reducible rfl
      (try simp only [Act.put, List.setIfInBounds_toArray, List.set_cons_zero, List.set_cons_succ])
      refine wpAnyH_take (i := 7) (oi := { dst := some 32, op := Op.move (Operand.tmp 3), type := 26, pos := "law.go:188", after := #[], guard := none }) (v := ?_) rfl (by kernel_rfl) (by kernel_rfl) (by kernel_rfl) (fun _ _ _ h => h) (Or.inl ⟨by rfl, ?_⟩) hHeld ?_
      rotate_left 1
      · intro u hSu
        obtain ⟨t0, t1⟩ := row_cells hSu.out.1.tb
        have hrr := hSu.out.1.tg.r
        rw [HE1.out] at hrr t0
        obtain ⟨r0, r1⟩ := rdr_at2 hrr HTT.out
        go_simp
        first | done | with_reducible rfl
      (try simp only [Act.put, List.setIfInBounds_toArray, List.set_cons_zero, List.set_cons_succ])
      refine wpAnyH_ready (rs := [8, 14]) (by kernel_rfl) (by simp) ?_
      refine AllReadyH.cons (o := { dst := some 33, op := Op.call { callee := Callee.value (Operand.func 25), args := #[Operand.tmp 32, Operand.const (Value.int IntKind.i64 5)], argTypes := #[26, 3] }, type := 3, pos := "law.go:188", after := #[{ on := 7, ground := Ground.data }], guard := none }) rfl (fun Kz hK => ?_) (AllReadyH.cons (o := { dst := some 7, op := Op.alloc 38, type := 0, pos := "law.go:188", after := #[], guard := none }) rfl (fun Kz hK => ?_) AllReadyH.nil)
      · go_simp
        go_at_call 25
        refine (next_any a 5 (by unfold I64; omega) _ hHeld.out.1.tp).mono ?_
        rintro e w4 ⟨y, rfl, hy, hs⟩
        have hHn : Hid (OGd w a g d T l p c N w4 ∧ wq.heap.size ≤ w4.heap.size) := Lib.hid ⟨hHeld.out.1.tape hs, Nat.le_trans hHeld.out.2 hs.1.size⟩
        try replace HS9 := Lib.hid (show ∀ b, b = _ → _ from fun b hb => (HS9.out b hb).tape hs HAL.out)
        have hy1 : 1 ≤ 1 + y ∧ 1 + y ≤ 5 := by have h1 := hy.1; have h2 := hy.2.1 (by omega); omega
        have hwr : IntKind.i64.wrap (1 + y) = 1 + y := by rw [IntKind.wrap_i64]; omega
        clear hy hs
        refine hK.out _ _ (hHn) (fun hH2 => ?_)
        clear hK Kz hHeld
        have hHeld := hH2
        clear hH2
        (try simp only [Act.put, List.setIfInBounds_toArray, List.set_cons_zero, List.set_cons_succ])
        refine wpAnyH_take (i := 9) (oi := { dst := some 34, op := Op.binOp BinOp.add 3 (Operand.const (Value.int IntKind.i64 1)) (Operand.tmp 33) 3, type := 3, pos := "law.go:188", after := #[{ on := 8, ground := Ground.data }], guard := none }) (v := ?_) rfl (by kernel_rfl) (by kernel_rfl) (by kernel_rfl) (fun _ _ _ h => h) (Or.inl ⟨by rfl, ?_⟩) hHeld ?_
        rotate_left 1
        · intro u hSu
          obtain ⟨t0, t1⟩ := row_cells hSu.out.1.tb
          have hrr := hSu.out.1.tg.r
          rw [HE1.out] at hrr t0
          obtain ⟨r0, r1⟩ := rdr_at2 hrr HTT.out
          go_simp
          first | done | with_reducible rfl
        (try simp only [Act.put, List.setIfInBounds_toArray, List.set_cons_zero, List.set_cons_succ])
        refine wpAnyH_ready (rs := [10, 14]) (by kernel_rfl) (by simp) ?_
        refine AllReadyH.cons (o := { dst := some 35, op := Op.call { callee := Callee.value (Operand.func 41), args := #[Operand.tmp 25, Operand.tmp 31, Operand.tmp 34, Operand.const (Value.slice none 0 0)], argTypes := #[59, 3, 3, 36] }, type := 77, pos := "law.go:188", after := #[{ on := 0, ground := Ground.data }, { on := 6, ground := Ground.data }, { on := 9, ground := Ground.data }, { on := 8, ground := Ground.chain }], guard := none }) rfl (fun Kz hK => ?_) (AllReadyH.cons (o := { dst := some 7, op := Op.alloc 38, type := 0, pos := "law.go:188", after := #[], guard := none }) rfl (fun Kz hK => ?_) AllReadyH.nil)
        · go_simp
          go_at_call 41
          rw [← HE1.out]
          refine (rofN_any T t.id (1 + y) [] none 0 _ (fun _ => True) _ hHeld.out.1.tg ⟨none, 0, rfl, fun h => absurd rfl h⟩ ⟨Nat.le_refl _, by show (0 : Nat) ≤ _; omega⟩).mono ?_
          rintro e w5 ⟨X, rfl, hok, hg, hsm, -⟩
          have h0 := ofE_zero HOK.out (show T.R.length ≤ 23 by omega) HTM.out hy1
          rw [h0]
          unfold Ad.val
          try have HB5 := Lib.hid (show ∀ b, b = _ → b < _ from fun b hb => World.lt_of_row' (HS9.out b hb).ab)
          have HA := Lib.hid (And.intro hok.1 (And.intro (hok.2 (fun _ => rfl)) (ownA_of HOK.out (show T.R.length ≤ 23 by omega) HTM.out hy1 (hsm h0))))
          have hHn : Hid (OGd w a g d T l p c N w5 ∧ wq.heap.size ≤ w5.heap.size) := Lib.hid ⟨hHeld.out.1.keep hg, Nat.le_trans hHeld.out.2 hg.size⟩
          try replace HS9 := Lib.hid (show ∀ b, b = _ → _ from fun b hb => (HS9.out b hb).keep hg)
          clear hok hg hsm h0
          refine hK.out _ _ (hHn) (fun hH2 => ?_)
          clear hK Kz hHeld
          have hHeld := hH2
          clear hH2
          (try simp only [Act.put, List.setIfInBounds_toArray, List.set_cons_zero, List.set_cons_succ])
          refine wpAnyH_take (i := 11) (oi := { dst := some 24, op := Op.move (Operand.tmp 35), type := 77, pos := "law.go:188", after := #[{ on := 10, ground := Ground.data }], guard := none }) (v := ?_) rfl (by kernel_rfl) (by kernel_rfl) (by kernel_rfl) (fun _ _ _ h => h) (Or.inl ⟨by rfl, ?_⟩) hHeld ?_
          rotate_left 1
          · intro u hSu
            obtain ⟨t0, t1⟩ := row_cells hSu.out.1.tb
            have hrr := hSu.out.1.tg.r
            rw [HE1.out] at hrr t0
            obtain ⟨r0, r1⟩ := rdr_at2 hrr HTT.out
            go_simp
            first | done | with_reducible rfl
          (try simp only [Act.put, List.setIfInBounds_toArray, List.set_cons_zero, List.set_cons_succ])
          refine wpAnyH_take (i := 12) (oi := { dst := some 36, op := Op.extract (Operand.tmp 24) 0, type := 38, pos := "law.go:188", after := #[{ on := 11, ground := Ground.data }], guard := none }) (v := ?_) rfl (by kernel_rfl) (by kernel_rfl) (by kernel_rfl) (fun _ _ _ h => h) (Or.inl ⟨by rfl, ?_⟩) hHeld ?_
          rotate_left 1
          · intro u hSu
            obtain ⟨t0, t1⟩ := row_cells hSu.out.1.tb
            have hrr := hSu.out.1.tg.r
            rw [HE1.out] at hrr t0
            obtain ⟨r0, r1⟩ := rdr_at2 hrr HTT.out
            go_simp
            first | done | with_reducible rfl
          (try simp only [Act.put, List.setIfInBounds_toArray, List.set_cons_zero, List.set_cons_succ])
          refine wpAnyH_take (i := 13) (oi := { dst := some 37, op := Op.extract (Operand.tmp 24) 1, type := 31, pos := "law.go:188", after := #[{ on := 11, ground := Ground.data }, { on := 15, ground := Ground.gcOnly Departure.lateStores }], guard := none }) (v := ?_) rfl (by kernel_rfl) (by kernel_rfl) (by kernel_rfl) (fun _ _ _ h => h) (Or.inl ⟨by rfl, ?_⟩) hHeld ?_
          rotate_left 1
          · intro u hSu
            obtain ⟨t0, t1⟩ := row_cells hSu.out.1.tb
            have hrr := hSu.out.1.tg.r
            rw [HE1.out] at hrr t0
            obtain ⟨r0, r1⟩ := rdr_at2 hrr HTT.out
            go_simp
            first | done | with_reducible rfl
          (try simp only [Act.put, List.setIfInBounds_toArray, List.set_cons_zero, List.set_cons_succ])
          refine wpAnyH_ready (rs := [14]) (by kernel_rfl) (by simp) ?_
          refine AllReadyH.cons (o := { dst := some 7, op := Op.alloc 38, type := 0, pos := "law.go:188", after := #[], guard := none }) rfl (fun Kz hK => ?_) AllReadyH.nil
          go_simp
          try replace HA := Lib.hid (And.intro (HA.out.1.and.keep (World.grownBy_alloc _ (.cells #[.int .i64 0, .int .i64 0, .bool false, .slice none 0 0, .slice none 0 0] 38) none)) HA.out.2)
          have HSN := nx_startD #[.int .i64 0, .int .i64 0, .bool false, .slice none 0 0, .slice none 0 0] 38 hHeld.out.2
          have hHn : Hid (OGd w a g d T l p c N _ ∧ wq.heap.size ≤ _) := Lib.hid ⟨hHeld.out.1.keep (World.grownBy_alloc _ (.cells #[.int .i64 0, .int .i64 0, .bool false, .slice none 0 0, .slice none 0 0] 38) none), Nat.le_trans hHeld.out.2 (World.grownBy_alloc _ (.cells #[.int .i64 0, .int .i64 0, .bool false, .slice none 0 0, .slice none 0 0] 38) none).size⟩
          have HS9 := Lib.hid HSN
          clear HSN
          generalize hwa : World.alloc _ _ = wA at *
          clear hwa
          refine hK.out _ _ (hHn) (fun hH2 => ?_)
          clear hK Kz hHeld
          have hHeld := hH2
          clear hH2
          (try simp only [Act.put, List.setIfInBounds_toArray, List.set_cons_zero, List.set_cons_succ])
          refine wpAnyH_ready (rs := [15]) (by kernel_rfl) (by simp) ?_
          refine AllReadyH.cons (o := { dst := none, op := Op.store 38 (Operand.tmp 7) (Operand.tmp 36), type := 0, pos := "law.go:188", after := #[{ on := 14, ground := Ground.data }, { on := 12, ground := Ground.data }, { on := 10, ground := Ground.chain }, { on := 0, ground := Ground.phase }, { on := 1, ground := Ground.phase }, { on := 2, ground := Ground.phase }, { on := 3, ground := Ground.phase }, { on := 4, ground := Ground.phase }, { on := 5, ground := Ground.phase }, { on := 6, ground := Ground.phase }, { on := 7, ground := Ground.phase }, { on := 8, ground := Ground.phase }, { on := 9, ground := Ground.phase }, { on := 10, ground := Ground.phase }, { on := 11, ground := Ground.phase }, { on := 12, ground := Ground.phase }, { on := 13, ground := Ground.textOnly Departure.lateStores }, { on := 14, ground := Ground.phase }], guard := none }) rfl (fun Kz hK => ?_) AllReadyH.nil
          have hna := HS9.out _ rfl
          obtain ⟨k0, k1, k2, k3', k4⟩ := row5 hna.ab
          have f0 := frozen_of_row _ _ 0 _ _ hna.ab
          have f1 := frozen_of_row _ _ 1 _ _ hna.ab
          have f2 := frozen_of_row _ _ 2 _ _ hna.ab
          have f3 := frozen_of_row _ _ 3 _ _ hna.ab
          have f4 := frozen_of_row _ _ 4 _ _ hna.ab
          obtain ⟨s1, s2⟩ := store5 (.int .i64 X.r) (.int .i64 X.q) (.bool X.cp) (.slice X.pL X.L.length X.cL) (.slice X.pC X.C.length X.cC) hna.ab
          have HE : Hid (OGd w a g d T l p c N _ ∧ AB _ X _ ∧ AdNl X ∧ OwnA T.L t X) := Lib.hid ⟨hHeld.out.1.new s2 (by have := hna.lo; have := HNN.out; omega), ⟨s1, (HA.out.1.grown s2 (fun x hx e => by have h9 := Option.some.inj e; first | (have := hx.2; omega) | (have := HB5.out _ rfl; rcases hx with hx | ⟨-, hx⟩; omega; exact hx rfl))).mono (fun _ _ => trivial)⟩, HA.out.2.1, HA.out.2.2⟩
          have HSZ := Lib.hid (Nat.le_trans hHeld.out.2 s2.size)
          go_simp
          clear k0 k1 k2 k3' k4 f0 f1 f2 f3 f4 s1 s2 hna
          refine hK.out _ _ (Lib.hid ⟨HE.out.1, HSZ.out⟩) (fun hH2 => ?_)
          clear hK Kz hHeld
          have hHeld := hH2
          clear hH2
          (try simp only [Act.put, List.setIfInBounds_toArray, List.set_cons_zero, List.set_cons_succ])
          refine wpAnyH_take (i := 16) (oi := { dst := some 8, op := Op.assign (Operand.tmp 37), type := 31, pos := "law.go:188", after := #[{ on := 13, ground := Ground.data }, { on := 15, ground := Ground.chain }, { on := 0, ground := Ground.phase }, { on := 1, ground := Ground.phase }, { on := 2, ground := Ground.phase }, { on := 3, ground := Ground.phase }, { on := 4, ground := Ground.phase }, { on := 5, ground := Ground.phase }, { on := 6, ground := Ground.phase }, { on := 7, ground := Ground.phase }, { on := 8, ground := Ground.phase }, { on := 9, ground := Ground.phase }, { on := 10, ground := Ground.phase }, { on := 11, ground := Ground.phase }, { on := 12, ground := Ground.phase }, { on := 13, ground := Ground.phase }, { on := 14, ground := Ground.phase }, { on := 15, ground := Ground.phase }], guard := none }) (v := ?_) rfl (by kernel_rfl) (by kernel_rfl) (by kernel_rfl) (fun _ _ _ h => h) (Or.inl ⟨by rfl, ?_⟩) hHeld ?_
          rotate_left 1
          · intro u hSu
            obtain ⟨t0, t1⟩ := row_cells hSu.out.1.tb
            have hrr := hSu.out.1.tg.r
            rw [HE1.out] at hrr t0
            obtain ⟨r0, r1⟩ := rdr_at2 hrr HTT.out
            go_simp
            first | done | with_reducible rfl
          (try simp only [Act.put, List.setIfInBounds_toArray, List.set_cons_zero, List.set_cons_succ])
          refine wpAnyH_done (by kernel_rfl) ?_ _
          clear HD hHeld hHn HS9
          go_wp2_with fail
          go_meet
          exact ⟨_, X, rfl, rfl, HE⟩
        · go_simp
          try replace HA := Lib.hid (And.intro (HA.out.1.and.keep (World.grownBy_alloc _ (.cells #[.int .i64 0, .int .i64 0, .bool false, .slice none 0 0, .slice none 0 0] 38) none)) HA.out.2)
          have HSN := nx_startD #[.int .i64 0, .int .i64 0, .bool false, .slice none 0 0, .slice none 0 0] 38 hHeld.out.2
          have hHn : Hid (OGd w a g d T l p c N _ ∧ wq.heap.size ≤ _) := Lib.hid ⟨hHeld.out.1.keep (World.grownBy_alloc _ (.cells #[.int .i64 0, .int .i64 0, .bool false, .slice none 0 0, .slice none 0 0] 38) none), Nat.le_trans hHeld.out.2 (World.grownBy_alloc _ (.cells #[.int .i64 0, .int .i64 0, .bool false, .slice none 0 0, .slice none 0 0] 38) none).size⟩
          have HS9 := Lib.hid HSN
          clear HSN
          generalize hwa : World.alloc _ _ = wA at *
          clear hwa
          refine hK.out _ _ (hHn) (fun hH2 => ?_)
          clear hK Kz hHeld
          have hHeld := hH2
          clear hH2
          (try simp only [Act.put, List.setIfInBounds_toArray, List.set_cons_zero, List.set_cons_succ])
          refine wpAnyH_ready (rs := [10]) (by kernel_rfl) (by simp) ?_
          refine AllReadyH.cons (o := { dst := some 35, op := Op.call { callee := Callee.value (Operand.func 41), args := #[Operand.tmp 25, Operand.tmp 31, Operand.tmp 34, Operand.const (Value.slice none 0 0)], argTypes := #[59, 3, 3, 36] }, type := 77, pos := "law.go:188", after := #[{ on := 0, ground := Ground.data }, { on := 6, ground := Ground.data }, { on := 9, ground := Ground.data }, { on := 8, ground := Ground.chain }], guard := none }) rfl (fun Kz hK => ?_) AllReadyH.nil
          go_simp
          go_at_call 41
          rw [← HE1.out]
          refine (rofN_any T t.id (1 + y) [] none 0 _ (fun _ => True) _ hHeld.out.1.tg ⟨none, 0, rfl, fun h => absurd rfl h⟩ ⟨Nat.le_refl _, by show (0 : Nat) ≤ _; omega⟩).mono ?_
          rintro e w5 ⟨X, rfl, hok, hg, hsm, -⟩
          have h0 := ofE_zero HOK.out (show T.R.length ≤ 23 by omega) HTM.out hy1
          rw [h0]
          unfold Ad.val
          try have HB5 := Lib.hid (show ∀ b, b = _ → b < _ from fun b hb => World.lt_of_row' (HS9.out b hb).ab)
          have HA := Lib.hid (And.intro hok.1 (And.intro (hok.2 (fun _ => rfl)) (ownA_of HOK.out (show T.R.length ≤ 23 by omega) HTM.out hy1 (hsm h0))))
          have hHn : Hid (OGd w a g d T l p c N w5 ∧ wq.heap.size ≤ w5.heap.size) := Lib.hid ⟨hHeld.out.1.keep hg, Nat.le_trans hHeld.out.2 hg.size⟩
          try replace HS9 := Lib.hid (show ∀ b, b = _ → _ from fun b hb => (HS9.out b hb).keep hg)
          clear hok hg hsm h0
          refine hK.out _ _ (hHn) (fun hH2 => ?_)
          clear hK Kz hHeld
          have hHeld := hH2
          clear hH2
          (try simp only [Act.put, List.setIfInBounds_toArray, List.set_cons_zero, List.set_cons_succ])
          refine wpAnyH_take (i := 11) (oi := { dst := some 24, op := Op.move (Operand.tmp 35), type := 77, pos := "law.go:188", after := #[{ on := 10, ground := Ground.data }], guard := none }) (v := ?_) rfl (by kernel_rfl) (by kernel_rfl) (by kernel_rfl) (fun _ _ _ h => h) (Or.inl ⟨by rfl, ?_⟩) hHeld ?_
          rotate_left 1
          · intro u hSu
            obtain ⟨t0, t1⟩ := row_cells hSu.out.1.tb
            have hrr := hSu.out.1.tg.r
            rw [HE1.out] at hrr t0
            obtain ⟨r0, r1⟩ := rdr_at2 hrr HTT.out
            go_simp
            first | done | with_reducible rfl
          (try simp only [Act.put, List.setIfInBounds_toArray, List.set_cons_zero, List.set_cons_succ])
          refine wpAnyH_take (i := 12) (oi := { dst := some 36, op := Op.extract (Operand.tmp 24) 0, type := 38, pos := "law.go:188", after := #[{ on := 11, ground := Ground.data }], guard := none }) (v := ?_) rfl (by kernel_rfl) (by kernel_rfl) (by kernel_rfl) (fun _ _ _ h => h) (Or.inl ⟨by rfl, ?_⟩) hHeld ?_
          rotate_left 1
          · intro u hSu
            obtain ⟨t0, t1⟩ := row_cells hSu.out.1.tb
            have hrr := hSu.out.1.tg.r
            rw [HE1.out] at hrr t0
            obtain ⟨r0, r1⟩ := rdr_at2 hrr HTT.out
            go_simp
            first | done | with_reducible rfl
          (try simp only [Act.put, List.setIfInBounds_toArray, List.set_cons_zero, List.set_cons_succ])
          refine wpAnyH_take (i := 13) (oi := { dst := some 37, op := Op.extract (Operand.tmp 24) 1, type := 31, pos := "law.go:188", after := #[{ on := 11, ground := Ground.data }, { on := 15, ground := Ground.gcOnly Departure.lateStores }], guard := none }) (v := ?_) rfl (by kernel_rfl) (by kernel_rfl) (by kernel_rfl) (fun _ _ _ h => h) (Or.inl ⟨by rfl, ?_⟩) hHeld ?_
          rotate_left 1
          · intro u hSu
            obtain ⟨t0, t1⟩ := row_cells hSu.out.1.tb
            have hrr := hSu.out.1.tg.r
            rw [HE1.out] at hrr t0
            obtain ⟨r0, r1⟩ := rdr_at2 hrr HTT.out
            go_simp
            first | done | with_reducible rfl
          (try simp only [Act.put, List.setIfInBounds_toArray, List.set_cons_zero, List.set_cons_succ])
          refine wpAnyH_ready (rs := [15]) (by kernel_rfl) (by simp) ?_
          refine AllReadyH.cons (o := { dst := none, op := Op.store 38 (Operand.tmp 7) (Operand.tmp 36), type := 0, pos := "law.go:188", after := #[{ on := 14, ground := Ground.data }, { on := 12, ground := Ground.data }, { on := 10, ground := Ground.chain }, { on := 0, ground := Ground.phase }, { on := 1, ground := Ground.phase }, { on := 2, ground := Ground.phase }, { on := 3, ground := Ground.phase }, { on := 4, ground := Ground.phase }, { on := 5, ground := Ground.phase }, { on := 6, ground := Ground.phase }, { on := 7, ground := Ground.phase }, { on := 8, ground := Ground.phase }, { on := 9, ground := Ground.phase }, { on := 10, ground := Ground.phase }, { on := 11, ground := Ground.phase }, { on := 12, ground := Ground.phase }, { on := 13, ground := Ground.textOnly Departure.lateStores }, { on := 14, ground := Ground.phase }], guard := none }) rfl (fun Kz hK => ?_) AllReadyH.nil
          have hna := HS9.out _ rfl
          obtain ⟨k0, k1, k2, k3', k4⟩ := row5 hna.ab
          have f0 := frozen_of_row _ _ 0 _ _ hna.ab
          have f1 := frozen_of_row _ _ 1 _ _ hna.ab
          have f2 := frozen_of_row _ _ 2 _ _ hna.ab
          have f3 := frozen_of_row _ _ 3 _ _ hna.ab
          have f4 := frozen_of_row _ _ 4 _ _ hna.ab
          obtain ⟨s1, s2⟩ := store5 (.int .i64 X.r) (.int .i64 X.q) (.bool X.cp) (.slice X.pL X.L.length X.cL) (.slice X.pC X.C.length X.cC) hna.ab
          have HE : Hid (OGd w a g d T l p c N _ ∧ AB _ X _ ∧ AdNl X ∧ OwnA T.L t X) := Lib.hid ⟨hHeld.out.1.new s2 (by have := hna.lo; have := HNN.out; omega), ⟨s1, (HA.out.1.grown s2 (fun x hx e => by have h9 := Option.some.inj e; first | (have := hx.2; omega) | (have := HB5.out _ rfl; rcases hx with hx | ⟨-, hx⟩; omega; exact hx rfl))).mono (fun _ _ => trivial)⟩, HA.out.2.1, HA.out.2.2⟩
          have HSZ := Lib.hid (Nat.le_trans hHeld.out.2 s2.size)
          go_simp
          clear k0 k1 k2 k3' k4 f0 f1 f2 f3 f4 s1 s2 hna
          refine hK.out _ _ (Lib.hid ⟨HE.out.1, HSZ.out⟩) (fun hH2 => ?_)
          clear hK Kz hHeld
          have hHeld := hH2
          clear hH2
          (try simp only [Act.put, List.setIfInBounds_toArray, List.set_cons_zero, List.set_cons_succ])
          refine wpAnyH_take (i := 16) (oi := { dst := some 8, op := Op.assign (Operand.tmp 37), type := 31, pos := "law.go:188", after := #[{ on := 13, ground := Ground.data }, { on := 15, ground := Ground.chain }, { on := 0, ground := Ground.phase }, { on := 1, ground := Ground.phase }, { on := 2, ground := Ground.phase }, { on := 3, ground := Ground.phase }, { on := 4, ground := Ground.phase }, { on := 5, ground := Ground.phase }, { on := 6, ground := Ground.phase }, { on := 7, ground := Ground.phase }, { on := 8, ground := Ground.phase }, { on := 9, ground := Ground.phase }, { on := 10, ground := Ground.phase }, { on := 11, ground := Ground.phase }, { on := 12, ground := Ground.phase }, { on := 13, ground := Ground.phase }, { on := 14, ground := Ground.phase }, { on := 15, ground := Ground.phase }], guard := none }) (v := ?_) rfl (by kernel_rfl) (by kernel_rfl) (by kernel_rfl) (fun _ _ _ h => h) (Or.inl ⟨by rfl, ?_⟩) hHeld ?_
          rotate_left 1
          · intro u hSu
            obtain ⟨t0, t1⟩ := row_cells hSu.out.1.tb
            have hrr := hSu.out.1.tg.r
            rw [HE1.out] at hrr t0
            obtain ⟨r0, r1⟩ := rdr_at2 hrr HTT.out
            go_simp
            first | done | with_reducible rfl
          (try simp only [Act.put, List.setIfInBounds_toArray, List.set_cons_zero, List.set_cons_succ])
          refine wpAnyH_done (by kernel_rfl) ?_ _
          clear HD hHeld hHn HS9
          go_wp2_with fail
          go_meet
          exact ⟨_, X, rfl, rfl, HE⟩
      · go_simp
        try replace HA := Lib.hid (And.intro (HA.out.1.and.keep (World.grownBy_alloc _ (.cells #[.int .i64 0, .int .i64 0, .bool false, .slice none 0 0, .slice none 0 0] 38) none)) HA.out.2)
        have HSN := nx_startD #[.int .i64 0, .int .i64 0, .bool false, .slice none 0 0, .slice none 0 0] 38 hHeld.out.2
        have hHn : Hid (OGd w a g d T l p c N _ ∧ wq.heap.size ≤ _) := Lib.hid ⟨hHeld.out.1.keep (World.grownBy_alloc _ (.cells #[.int .i64 0, .int .i64 0, .bool false, .slice none 0 0, .slice none 0 0] 38) none), Nat.le_trans hHeld.out.2 (World.grownBy_alloc _ (.cells #[.int .i64 0, .int .i64 0, .bool false, .slice none 0 0, .slice none 0 0] 38) none).size⟩
        have HS9 := Lib.hid HSN
        clear HSN
        generalize hwa : World.alloc _ _ = wA at *
        clear hwa
        refine hK.out _ _ (hHn) (fun hH2 => ?_)
        clear hK Kz hHeld
        have hHeld := hH2
        clear hH2
        (try simp only [Act.put, List.setIfInBounds_toArray, List.set_cons_zero, List.set_cons_succ])
        refine wpAnyH_ready (rs := [8]) (by kernel_rfl) (by simp) ?_
        refine AllReadyH.cons (o := { dst := some 33, op := Op.call { callee := Callee.value (Operand.func 25), args := #[Operand.tmp 32, Operand.const (Value.int IntKind.i64 5)], argTypes := #[26, 3] }, type := 3, pos := "law.go:188", after := #[{ on := 7, ground := Ground.data }], guard := none }) rfl (fun Kz hK => ?_) AllReadyH.nil
        go_simp
        go_at_call 25
        refine (next_any a 5 (by unfold I64; omega) _ hHeld.out.1.tp).mono ?_
        rintro e w4 ⟨y, rfl, hy, hs⟩
        have hHn : Hid (OGd w a g d T l p c N w4 ∧ wq.heap.size ≤ w4.heap.size) := Lib.hid ⟨hHeld.out.1.tape hs, Nat.le_trans hHeld.out.2 hs.1.size⟩
        try replace HS9 := Lib.hid (show ∀ b, b = _ → _ from fun b hb => (HS9.out b hb).tape hs HAL.out)
        have hy1 : 1 ≤ 1 + y ∧ 1 + y ≤ 5 := by have h1 := hy.1; have h2 := hy.2.1 (by omega); omega
        have hwr : IntKind.i64.wrap (1 + y) = 1 + y := by rw [IntKind.wrap_i64]; omega
        clear hy hs
        refine hK.out _ _ (hHn) (fun hH2 => ?_)
        clear hK Kz hHeld
        have hHeld := hH2
        clear hH2
        (try simp only [Act.put, List.setIfInBounds_toArray, List.set_cons_zero, List.set_cons_succ])
        refine wpAnyH_take (i := 9) (oi := { dst := some 34, op := Op.binOp BinOp.add 3 (Operand.const (Value.int IntKind.i64 1)) (Operand.tmp 33) 3, type := 3, pos := "law.go:188", after := #[{ on := 8, ground := Ground.data }], guard := none }) (v := ?_) rfl (by kernel_rfl) (by kernel_rfl) (by kernel_rfl) (fun _ _ _ h => h) (Or.inl ⟨by rfl, ?_⟩) hHeld ?_
        rotate_left 1
        · intro u hSu
          obtain ⟨t0, t1⟩ := row_cells hSu.out.1.tb
          have hrr := hSu.out.1.tg.r
          rw [HE1.out] at hrr t0
          obtain ⟨r0, r1⟩ := rdr_at2 hrr HTT.out
          go_simp
          first | done | with_reducible rfl
        (try simp only [Act.put, List.setIfInBounds_toArray, List.set_cons_zero, List.set_cons_succ])
        refine wpAnyH_ready (rs := [10]) (by kernel_rfl) (by simp) ?_
        refine AllReadyH.cons (o := { dst := some 35, op := Op.call { callee := Callee.value (Operand.func 41), args := #[Operand.tmp 25, Operand.tmp 31, Operand.tmp 34, Operand.const (Value.slice none 0 0)], argTypes := #[59, 3, 3, 36] }, type := 77, pos := "law.go:188", after := #[{ on := 0, ground := Ground.data }, { on := 6, ground := Ground.data }, { on := 9, ground := Ground.data }, { on := 8, ground := Ground.chain }], guard := none }) rfl (fun Kz hK => ?_) AllReadyH.nil
        go_simp
        go_at_call 41
        rw [← HE1.out]
        refine (rofN_any T t.id (1 + y) [] none 0 _ (fun _ => True) _ hHeld.out.1.tg ⟨none, 0, rfl, fun h => absurd rfl h⟩ ⟨Nat.le_refl _, by show (0 : Nat) ≤ _; omega⟩).mono ?_
        rintro e w5 ⟨X, rfl, hok, hg, hsm, -⟩
        have h0 := ofE_zero HOK.out (show T.R.length ≤ 23 by omega) HTM.out hy1
        rw [h0]
        unfold Ad.val
        try have HB5 := Lib.hid (show ∀ b, b = _ → b < _ from fun b hb => World.lt_of_row' (HS9.out b hb).ab)
        have HA := Lib.hid (And.intro hok.1 (And.intro (hok.2 (fun _ => rfl)) (ownA_of HOK.out (show T.R.length ≤ 23 by omega) HTM.out hy1 (hsm h0))))
        have hHn : Hid (OGd w a g d T l p c N w5 ∧ wq.heap.size ≤ w5.heap.size) := Lib.hid ⟨hHeld.out.1.keep hg, Nat.le_trans hHeld.out.2 hg.size⟩
        try replace HS9 := Lib.hid (show ∀ b, b = _ → _ from fun b hb => (HS9.out b hb).keep hg)
        clear hok hg hsm h0
        refine hK.out _ _ (hHn) (fun hH2 => ?_)
        clear hK Kz hHeld
        have hHeld := hH2
        clear hH2
        (try simp only [Act.put, List.setIfInBounds_toArray, List.set_cons_zero, List.set_cons_succ])
        refine wpAnyH_take (i := 11) (oi := { dst := some 24, op := Op.move (Operand.tmp 35), type := 77, pos := "law.go:188", after := #[{ on := 10, ground := Ground.data }], guard := none }) (v := ?_) rfl (by kernel_rfl) (by kernel_rfl) (by kernel_rfl) (fun _ _ _ h => h) (Or.inl ⟨by rfl, ?_⟩) hHeld ?_
        rotate_left 1
        · intro u hSu
          obtain ⟨t0, t1⟩ := row_cells hSu.out.1.tb
          have hrr := hSu.out.1.tg.r
          rw [HE1.out] at hrr t0
          obtain ⟨r0, r1⟩ := rdr_at2 hrr HTT.out
          go_simp
          first | done | with_reducible rfl
        (try simp only [Act.put, List.setIfInBounds_toArray, List.set_cons_zero, List.set_cons_succ])
        refine wpAnyH_take (i := 12) (oi := { dst := some 36, op := Op.extract (Operand.tmp 24) 0, type := 38, pos := "law.go:188", after := #[{ on := 11, ground := Ground.data }], guard := none }) (v := ?_) rfl (by kernel_rfl) (by kernel_rfl) (by kernel_rfl) (fun _ _ _ h => h) (Or.inl ⟨by rfl, ?_⟩) hHeld ?_
        rotate_left 1
        · intro u hSu
          obtain ⟨t0, t1⟩ := row_cells hSu.out.1.tb
          have hrr := hSu.out.1.tg.r
          rw [HE1.out] at hrr t0
          obtain ⟨r0, r1⟩ := rdr_at2 hrr HTT.out
          go_simp
          first | done | with_reducible rfl
        (try simp only [Act.put, List.setIfInBounds_toArray, List.set_cons_zero, List.set_cons_succ])
        refine wpAnyH_take (i := 13) (oi := { dst := some 37, op := Op.extract (Operand.tmp 24) 1, type := 31, pos := "law.go:188", after := #[{ on := 11, ground := Ground.data }, { on := 15, ground := Ground.gcOnly Departure.lateStores }], guard := none }) (v := ?_) rfl (by kernel_rfl) (by kernel_rfl) (by kernel_rfl) (fun _ _ _ h => h) (Or.inl ⟨by rfl, ?_⟩) hHeld ?_
        rotate_left 1
        · intro u hSu
          obtain ⟨t0, t1⟩ := row_cells hSu.out.1.tb
          have hrr := hSu.out.1.tg.r
          rw [HE1.out] at hrr t0
          obtain ⟨r0, r1⟩ := rdr_at2 hrr HTT.out
          go_simp
          first | done | with_reducible rfl
        (try simp only [Act.put, List.setIfInBounds_toArray, List.set_cons_zero, List.set_cons_succ])
        refine wpAnyH_ready (rs := [15]) (by kernel_rfl) (by simp) ?_
        refine AllReadyH.cons (o := { dst := none, op := Op.store 38 (Operand.tmp 7) (Operand.tmp 36), type := 0, pos := "law.go:188", after := #[{ on := 14, ground := Ground.data }, { on := 12, ground := Ground.data }, { on := 10, ground := Ground.chain }, { on := 0, ground := Ground.phase }, { on := 1, ground := Ground.phase }, { on := 2, ground := Ground.phase }, { on := 3, ground := Ground.phase }, { on := 4, ground := Ground.phase }, { on := 5, ground := Ground.phase }, { on := 6, ground := Ground.phase }, { on := 7, ground := Ground.phase }, { on := 8, ground := Ground.phase }, { on := 9, ground := Ground.phase }, { on := 10, ground := Ground.phase }, { on := 11, ground := Ground.phase }, { on := 12, ground := Ground.phase }, { on := 13, ground := Ground.textOnly Departure.lateStores }, { on := 14, ground := Ground.phase }], guard := none }) rfl (fun Kz hK => ?_) AllReadyH.nil
        have hna := HS9.out _ rfl
        obtain ⟨k0, k1, k2, k3', k4⟩ := row5 hna.ab
        have f0 := frozen_of_row _ _ 0 _ _ hna.ab
        have f1 := frozen_of_row _ _ 1 _ _ hna.ab
        have f2 := frozen_of_row _ _ 2 _ _ hna.ab
        have f3 := frozen_of_row _ _ 3 _ _ hna.ab
        have f4 := frozen_of_row _ _ 4 _ _ hna.ab
        obtain ⟨s1, s2⟩ := store5 (.int .i64 X.r) (.int .i64 X.q) (.bool X.cp) (.slice X.pL X.L.length X.cL) (.slice X.pC X.C.length X.cC) hna.ab
        have HE : Hid (OGd w a g d T l p c N _ ∧ AB _ X _ ∧ AdNl X ∧ OwnA T.L t X) := Lib.hid ⟨hHeld.out.1.new s2 (by have := hna.lo; have := HNN.out; omega), ⟨s1, (HA.out.1.grown s2 (fun x hx e => by have h9 := Option.some.inj e; first | (have := hx.2; omega) | (have := HB5.out _ rfl; rcases hx with hx | ⟨-, hx⟩; omega; exact hx rfl))).mono (fun _ _ => trivial)⟩, HA.out.2.1, HA.out.2.2⟩
        have HSZ := Lib.hid (Nat.le_trans hHeld.out.2 s2.size)
        go_simp
        clear k0 k1 k2 k3' k4 f0 f1 f2 f3 f4 s1 s2 hna
        refine hK.out _ _ (Lib.hid ⟨HE.out.1, HSZ.out⟩) (fun hH2 => ?_)
        clear hK Kz hHeld
        have hHeld := hH2
        clear hH2
        (try simp only [Act.put, List.setIfInBounds_toArray, List.set_cons_zero, List.set_cons_succ])
        refine wpAnyH_take (i := 16) (oi := { dst := some 8, op := Op.assign (Operand.tmp 37), type := 31, pos := "law.go:188", after := #[{ on := 13, ground := Ground.data }, { on := 15, ground := Ground.chain }, { on := 0, ground := Ground.phase }, { on := 1, ground := Ground.phase }, { on := 2, ground := Ground.phase }, { on := 3, ground := Ground.phase }, { on := 4, ground := Ground.phase }, { on := 5, ground := Ground.phase }, { on := 6, ground := Ground.phase }, { on := 7, ground := Ground.phase }, { on := 8, ground := Ground.phase }, { on := 9, ground := Ground.phase }, { on := 10, ground := Ground.phase }, { on := 11, ground := Ground.phase }, { on := 12, ground := Ground.phase }, { on := 13, ground := Ground.phase }, { on := 14, ground := Ground.phase }, { on := 15, ground := Ground.phase }], guard := none }) (v := ?_) rfl (by kernel_rfl) (by kernel_rfl) (by kernel_rfl) (fun _ _ _ h => h) (Or.inl ⟨by rfl, ?_⟩) hHeld ?_
        rotate_left 1
        · intro u hSu
          obtain ⟨t0, t1⟩ := row_cells hSu.out.1.tb
          have hrr := hSu.out.1.tg.r
          rw [HE1.out] at hrr t0
          obtain ⟨r0, r1⟩ := rdr_at2 hrr HTT.out
          go_simp
          first | done | with_reducible rfl
        (try simp only [Act.put, List.setIfInBounds_toArray, List.set_cons_zero, List.set_cons_succ])
        refine wpAnyH_done (by kernel_rfl) ?_ _
        clear HD hHeld hHn HS9
        go_wp2_with fail
        go_meet
        exact ⟨_, X, rfl, rfl, HE⟩
    case rest =>
    obtain ⟨b, X, rfl, rfl, HX⟩ := hcut
    clear K HAL HNN wq
    rename World => wq
    have q0 := cell_of_row _ _ 0 _ _ _ HX.out.1.db
    obtain ⟨x0, x1, x2, x3, x4⟩ := row5 HX.out.2.1.bx
    have hl9 : l.length ≤ 900 := by have := (HD1.out.ok (okT_all HOK.out)).len; omega
    go_wp2_with fail
    refine (dput_any l X p c (fun _ => True) wq (HX.out.1.rd.mono (fun _ _ => trivial)) HX.out.1.cc.1 HX.out.1.cc.2 hl9 (fun A hA => by have := vAd_sz (HD1.out.v A hA); omega) HX.out.2.1.ok HX.out.2.2.1 (by have := vAd_sz HX.out.2.2.2.v; omega)).mono ?_
    rintro e w5 ⟨m, p5, c5, rfl, hmf, hrd, hcm, hpn, hgr⟩
    obtain ⟨zz, hzz⟩ : ∃ z, pD l X = z := ⟨_, rfl⟩
    rw [hzz]
    have HD2 := Lib.hid (ofD_put HOK.out HD1.out HTT.out HX.out.2.2.2 hmf)
    have K5 := Lib.hid (HX.out.1.keep hgr)
    have hszq := hgr.size
    have hNq := HX.out.1.n.2.2
    have KP := Lib.hid (K5.out.put (M := w5.heap.size) (hrd.and.mono (fun x hx => by omega)) ⟨by omega, Nat.le_refl _⟩ ⟨hpn, hcm⟩)
    have fD := frozen_of_row _ _ 0 _ _ K5.out.db
    have qD := cell_of_row _ _ 0 _ _ _ K5.out.db
    clear hmf hrd hcm hpn hgr hzz HX q0 x0 x1 x2 x3 x4 hl9 HD1 K5 hszq hNq
    go_wp2_with fail
    exact ⟨⟨i + 1, m, p5, c5, _, by omega, congrArg _ (by omega), HD2, KP⟩, by simp only [RowKit.intOf]; omega⟩
  · obtain rfl : i = T.R.length := by omega
    have hnz : ((T.R.length : Int) == 0) = false := by rw [beq_eq_false_iff_ne]; omega
    go_wp2_with fail
    refine (routerM_any a T (by omega) _ wq K.out.tg (fun b hb => hb.1) K.out.tp).mono ?_
    rintro e w5 ⟨t, htm, rfl, hs⟩
    have K1 := Lib.hid (K.out.tape hs)
    have HTM := Lib.hid htm
    clear hs htm K t0 t1 HNN HAL
    obtain ⟨r, hr⟩ : ∃ r, t.id = r := ⟨_, rfl⟩
    have HTR := Lib.hid hr
    rw [hr]
    clear hr
    obtain ⟨t0, t1⟩ := row_cells K1.out.tb
    go_wp2_with fail
    refine (rarnd_any T r _ w5 K1.out.tg HOK.out ⟨t, HTM.out, HTR.out⟩).mono ?_
    rintro e w6 ⟨pc, cc, rfl, hrd, hcc, hpn, hg⟩
    obtain ⟨C, hC⟩ : ∃ C, cls T.L r = C := ⟨_, rfl⟩
    rw [hC] at hrd hcc ⊢
    have HC := Lib.hid hC
    have HCR := Lib.hid (hrd.mono (q' := fun _ => True) (fun _ _ => trivial))
    have hCl : C.length ≤ 9223372036854775807 := Nat.le_trans hcc.1 hcc.2
    have K2 := Lib.hid (K1.out.keep hg)
    clear hrd hcc hpn hg hC K1 t0 t1
    have O0 : Hid (NK w6 (.slice none 0 0) (outL C (T.R.take 0)) w6) := Lib.hid ⟨World.ownsRow_nil _ _ _ _, grown_refl _ _⟩
    go_wp2_with fail
    go_loopw [11, 12] (fun v x wr => ∃ k : Nat, k ≤ T.R.length ∧ x = .int .i64 (k : Int) ∧ Hid (NK w6 v (outL C (T.R.take k)) wr)) (fun _ x _ => T.R.length - (RowKit.intOf x).toNat)
    case atStart => exact ⟨0, Nat.zero_le _, rfl, O0⟩
    case round =>
    obtain ⟨k, hk, rfl, O⟩ := hrel
    clear O0
    obtain ⟨t0, t1⟩ := row_cells (K2.out.keep O.out.gr).tb
    by_cases hlt : k < T.R.length
    · obtain ⟨u, hu⟩ : ∃ u, T.R[k]? = some u := ⟨_, List.getElem?_eq_getElem hlt⟩
      obtain ⟨-, g1, o1, e1, -, hcell⟩ := rdr_cells (K2.out.keep O.out.gr).tg.r (by omega)
      obtain ⟨r0, r1⟩ := hcell k u hu
      have HOS := Lib.hid (outL_step (cl := C) hu)
      have hol := outL_len C (T.R.take k)
      have htk : (T.R.take k).length ≤ k := List.length_take_le _ _
      rw [e1] at t0
      clear hcell hu e1
      go_wp2_with fail
      refine (rhas4_any C u.id pc cc _ wr (HCR.out.keep O.out.gr) hCl).mono ?_
      rintro e wy ⟨rfl, rfl⟩
      obtain ⟨z, hz⟩ : ∃ z, hasI C u.id = z := ⟨_, rfl⟩
      rw [hz]
      rw [hz] at HOS
      clear hz
      obtain ⟨M, hM⟩ : ∃ M, outL C (T.R.take k) = M := ⟨_, rfl⟩
      rw [hM] at O HOS hol
      have hMl : M.length ≤ 7 := by omega
      clear hM hol htk
      cases z with
      | true =>
        have O2 : Hid (NK w6 _ (outL C (T.R.take (k + 1))) wr) := Lib.hid (by rw [HOS.out, if_pos rfl, List.append_nil]; exact O.out)
        clear O HOS
        go_wp2_with fail
        exact ⟨⟨k + 1, by omega, congrArg _ (by omega), O2⟩, by simp only [RowKit.intOf]; omega⟩
      | false =>
        have hown := O.out.own
        have hsz := O.out.gr.size
        go_wp2_with (at_builtin; refine wpList_append_own _ rfl _ _ 22 rfl w6.heap.size 3 i0 (.int .i64 0) 1 8 Try.underlying22 hi hz0 hz1 hz2 rfl (by decide) _ _ _ rfl (hown.alloc _) ⟨wr.heap.size, 0, none⟩ 1 1 [.int .i64 u.id] rfl rfl ?c1 ?c2 ?c3 ?c4 ?c5 ?_)
        try (case c1 => exact cell_one _ _ _)
        case c2 => first | rfl | (intro u hu; simp at hu; subst hu; rfl)
        case c3 => first | omega | (unfold maxLen; omega)
        case c4 => omega
        case c5 => first | omega | (simp; omega)
        intro v' w7 hown' hg _
        have O2 : Hid (NK w6 v' (outL C (T.R.take (k + 1))) w7) := Lib.hid (by rw [HOS.out, if_neg (by decide)]; exact (O.out.more (grown_refl _ _) hown' hg).1)
        clear hown' hg hown O HOS t0 t1 r0 r1
        go_wp2_with fail
        exact ⟨⟨k + 1, by omega, congrArg _ (by omega), O2⟩, by simp only [RowKit.intOf]; omega⟩
    · obtain rfl : k = T.R.length := by omega
      obtain ⟨wq2, hwq⟩ : ∃ wq, wq = wr := ⟨_, rfl⟩
      rw [← hwq] at O t0 t1 ⊢
      clear hwq
      have O1 := O.out
      rw [List.take_length] at O1
      obtain ⟨po, co, rfl, hor, hoc, hon, hog⟩ := O1.ret
      have K3 := Lib.hid (K2.out.keep hog)
      have HF : Hid (FlOk wq2 (fun _ => True) ⟨[], outL C T.R, none, 0, po, co⟩) := Lib.hid ⟨⟨none, 0, rfl, fun h => absurd rfl h⟩, hor.mono (fun _ _ => trivial), ⟨Nat.le_refl _, by show (0 : Nat) ≤ _; omega⟩, hoc⟩
      have HV := Lib.hid (of_view HD1.out HOK.out ⟨t, HTM.out, HTR.out⟩ (F := ⟨[], outL C T.R, none, 0, po, co⟩) rfl (fun s hs => by rw [HC.out]; exact outL_has s hs))
      have hl9 : l.length ≤ 900 := by have := (HD1.out.ok (okT_all HOK.out)).len; omega
      clear O O1 hor hoc hon hog K2 HCR
      obtain ⟨Q, hQ⟩ : ∃ Q, outL C T.R = Q := ⟨_, rfl⟩
      rw [hQ] at HF HV ⊢
      clear hQ
      go_upto_region 21 with fail
      clear t0 t1
      obtain ⟨wq, hwq⟩ : ∃ wq, wq = wq2 := ⟨_, rfl⟩
      rw [← hwq] at K3 HF ⊢
      clear hwq
      have HD := Lib.hid (grown_drew (grown_refl wq none))
      refine wp_region_held_drew (S := fun w' => Hid (wq.grownBy w' none)) (by kernel_rfl) (HD) (fun hHeld => ?_)
      generalize hwd : wq.drew = wd at *
      clear hwd
      refine wpAnyH_take (i := 0) (oi := { dst := some 82, op := Op.load 25 (Operand.tmp 5), type := 25, pos := "law.go:205", after := #[], guard := none }) (v := ?_) rfl (by kernel_rfl) (by kernel_rfl) (by kernel_rfl) (fun _ _ _ h => h) (Or.inl ⟨by rfl, ?_⟩) hHeld ?_
      rotate_left 1
      · intro u hSu
        have hO := K3.out.keep hSu.out
        have c0 := cell_of_row _ _ 0 _ _ _ hO.db
        obtain ⟨t0, t1⟩ := row_cells hO.tb
        go_simp
        first | done | with_reducible rfl
      (try simp only [Act.put, List.setIfInBounds_toArray, List.set_cons_zero, List.set_cons_succ])
      refine wpAnyH_take (i := 1) (oi := { dst := some 83, op := Op.move (Operand.tmp 9), type := 3, pos := "law.go:205", after := #[], guard := none }) (v := ?_) rfl (by kernel_rfl) (by kernel_rfl) (by kernel_rfl) (fun _ _ _ h => h) (Or.inl ⟨by rfl, ?_⟩) hHeld ?_
      rotate_left 1
      · intro u hSu
        have hO := K3.out.keep hSu.out
        have c0 := cell_of_row _ _ 0 _ _ _ hO.db
        obtain ⟨t0, t1⟩ := row_cells hO.tb
        go_simp
        first | done | with_reducible rfl
      (try simp only [Act.put, List.setIfInBounds_toArray, List.set_cons_zero, List.set_cons_succ])
      refine wpAnyH_take (i := 3) (oi := { dst := some 85, op := Op.load 59 (Operand.tmp 4), type := 59, pos := "law.go:205", after := #[], guard := none }) (v := ?_) rfl (by kernel_rfl) (by kernel_rfl) (by kernel_rfl) (fun _ _ _ h => h) (Or.inl ⟨by rfl, ?_⟩) hHeld ?_
      rotate_left 1
      · intro u hSu
        have hO := K3.out.keep hSu.out
        have c0 := cell_of_row _ _ 0 _ _ _ hO.db
        obtain ⟨t0, t1⟩ := row_cells hO.tb
        go_simp
        first | done | with_reducible rfl
      (try simp only [Act.put, List.setIfInBounds_toArray, List.set_cons_zero, List.set_cons_succ])
      refine wpAnyH_take (i := 4) (oi := { dst := some 86, op := Op.move (Operand.tmp 11), type := 22, pos := "law.go:205", after := #[], guard := none }) (v := ?_) rfl (by kernel_rfl) (by kernel_rfl) (by kernel_rfl) (fun _ _ _ h => h) (Or.inl ⟨by rfl, ?_⟩) hHeld ?_
      rotate_left 1
      · intro u hSu
        have hO := K3.out.keep hSu.out
        have c0 := cell_of_row _ _ 0 _ _ _ hO.db
        obtain ⟨t0, t1⟩ := row_cells hO.tb
        go_simp
        first | done | with_reducible rfl
      (try simp only [Act.put, List.setIfInBounds_toArray, List.set_cons_zero, List.set_cons_succ])
      refine wpAnyH_take (i := 5) (oi := { dst := some 87, op := Op.build 85 #[(1, Operand.tmp 86)], type := 85, pos := "law.go:205", after := #[{ on := 4, ground := Ground.data }], guard := none }) (v := ?_) rfl (by kernel_rfl) (by kernel_rfl) (by kernel_rfl) (fun _ _ _ h => h) (Or.inl ⟨by rfl, ?_⟩) hHeld ?_
      rotate_left 1
      · intro u hSu
        have hO := K3.out.keep hSu.out
        have c0 := cell_of_row _ _ 0 _ _ _ hO.db
        obtain ⟨t0, t1⟩ := row_cells hO.tb
        go_simp
        first | done | with_reducible rfl
      (try simp only [Act.put, List.setIfInBounds_toArray, List.set_cons_zero, List.set_cons_succ])
      refine wpAnyH_ready (rs := [2]) (by kernel_rfl) (by simp) ?_
      refine AllReadyH.cons (o := { dst := some 84, op := Op.call { callee := Callee.value (Operand.func 34), args := #[Operand.tmp 82, Operand.tmp 83], argTypes := #[25, 3] }, type := 59, pos := "law.go:205", after := #[{ on := 0, ground := Ground.data }, { on := 1, ground := Ground.data }], guard := none }) rfl (fun Kz hK => ?_) AllReadyH.nil
      go_simp
      go_at_call 34
      refine (dview_any l r p c _ _ (K3.out.rd.keep hHeld.out) (by omega)).mono ?_
      rintro e w8 ⟨U, rfl, hv, hok, hg⟩
      have hHn := Lib.hid (grown_trans hHeld.out hg)
      have HU := Lib.hid (And.intro (congrArg Prod.fst (hv.trans HV.out)) (And.intro (congrArg Prod.snd (hv.trans HV.out)) hok))
      try replace HW := Lib.hid (HW.out.keep hg)
      clear hg hv hok
      refine hK.out _ _ (hHn) (fun hH2 => ?_)
      clear hK Kz hHeld
      have hHeld := hH2
      clear hH2
      (try simp only [Act.put, List.setIfInBounds_toArray, List.set_cons_zero, List.set_cons_succ])
      refine wpAnyH_ready (rs := [6]) (by kernel_rfl) (by simp) ?_
      refine AllReadyH.cons (o := { dst := some 88, op := Op.call { callee := Callee.value (Operand.func 45), args := #[Operand.tmp 85, Operand.tmp 87], argTypes := #[59, 85] }, type := 59, pos := "law.go:205", after := #[{ on := 3, ground := Ground.data }, { on := 5, ground := Ground.data }, { on := 2, ground := Ground.chain }], guard := none }) rfl (fun Kz hK => ?_) AllReadyH.nil
      go_simp
      go_at_call 45
      refine (rwithoutS_any T ⟨[], Q, none, 0, po, co⟩ _ _ _ (K3.out.tg.keep hHeld.out) (HF.out.keep hHeld.out)).mono ?_
      rw [if_pos HOK.out, if_pos HOK.out]
      rintro e w9 ⟨pR2, cR2, pL2, cL2, rfl, hw2, -, hg⟩
      have hHn := Lib.hid (grown_trans hHeld.out hg)
      have HW := Lib.hid hw2
      try replace HU := Lib.hid (And.intro HU.out.1 (And.intro HU.out.2.1 (HU.out.2.2.keep hg)))
      clear hg hw2
      refine hK.out _ _ (hHn) (fun hH2 => ?_)
      clear hK Kz hHeld
      have hHeld := hH2
      clear hH2
      (try simp only [Act.put, List.setIfInBounds_toArray, List.set_cons_zero, List.set_cons_succ])
      refine wpAnyH_ready (rs := [7]) (by kernel_rfl) (by simp) ?_
      refine AllReadyH.cons (o := { dst := some 89, op := Op.call { callee := Callee.value (Operand.func 33), args := #[Operand.tmp 84, Operand.tmp 88], argTypes := #[59, 59] }, type := 4, pos := "law.go:205", after := #[{ on := 2, ground := Ground.data }, { on := 6, ground := Ground.data }, { on := 6, ground := Ground.chain }], guard := none }) rfl (fun Kz hK => ?_) AllReadyH.nil
      go_simp
      go_at_call 33
      refine (rsameT_any U ⟨_, _, pR2, cR2, pL2, cL2⟩ HU.out.1.symm HU.out.2.1.symm _ _ _ HU.out.2.2 HW.out).mono ?_
      rintro e w10 ⟨rfl, hg⟩
      have hHn := Lib.hid (grown_trans hHeld.out hg)
      clear hg HU HW
      refine hK.out _ _ (hHn) (fun hH2 => ?_)
      clear hK Kz hHeld
      have hHeld := hH2
      clear hH2
      (try simp only [Act.put, List.setIfInBounds_toArray, List.set_cons_zero, List.set_cons_succ])
      refine wpAnyH_take (i := 8) (oi := { dst := some 90, op := Op.move (Operand.tmp 89), type := 4, pos := "law.go:205", after := #[{ on := 7, ground := Ground.data }, { on := 7, ground := Ground.chain }], guard := none }) (v := ?_) rfl (by kernel_rfl) (by kernel_rfl) (by kernel_rfl) (fun _ _ _ h => h) (Or.inl ⟨by rfl, ?_⟩) hHeld ?_
      rotate_left 1
      · intro u hSu
        have hO := K3.out.keep hSu.out
        have c0 := cell_of_row _ _ 0 _ _ _ hO.db
        obtain ⟨t0, t1⟩ := row_cells hO.tb
        go_simp
        first | done | with_reducible rfl
      (try simp only [Act.put, List.setIfInBounds_toArray, List.set_cons_zero, List.set_cons_succ])
      refine wpAnyH_ready (rs := [9]) (by kernel_rfl) (by simp) ?_
      refine AllReadyH.cons (o := { dst := some 91, op := Op.call { callee := Callee.value (Operand.func 22), args := #[], argTypes := #[] }, type := 4, pos := "law.go:205", after := #[{ on := 8, ground := Ground.chain }, { on := 8, ground := Ground.guard }], guard := some (8, true) }) rfl (fun Kz hK => ?_) AllReadyH.nil
      go_simp
      go_at_call 22
      refine (dawake_any _).mono ?_
      rintro e w11 ⟨rfl, hg⟩
      have hHn := Lib.hid (grown_trans hHeld.out hg)
      clear hg
      refine hK.out _ _ (hHn) (fun hH2 => ?_)
      clear hK Kz hHeld
      have hHeld := hH2
      clear hH2
      (try simp only [Act.put, List.setIfInBounds_toArray, List.set_cons_zero, List.set_cons_succ])
      refine wpAnyH_take (i := 10) (oi := { dst := some 92, op := Op.pick (Operand.tmp 90) (Operand.tmp 91) (Operand.const (Value.bool false)), type := 4, pos := "law.go:205", after := #[{ on := 8, ground := Ground.data }, { on := 9, ground := Ground.data }], guard := none }) (v := ?_) rfl (by kernel_rfl) (by kernel_rfl) (by kernel_rfl) (fun _ _ _ h => h) (Or.inl ⟨by rfl, ?_⟩) hHeld ?_
      rotate_left 1
      · intro u hSu
        have hO := K3.out.keep hSu.out
        have c0 := cell_of_row _ _ 0 _ _ _ hO.db
        obtain ⟨t0, t1⟩ := row_cells hO.tb
        go_simp
        first | done | with_reducible rfl
      (try simp only [Act.put, List.setIfInBounds_toArray, List.set_cons_zero, List.set_cons_succ])
      refine wpAnyH_take (i := 11) (oi := { dst := some 2, op := Op.assign (Operand.tmp 92), type := 4, pos := "law.go:205", after := #[{ on := 10, ground := Ground.data }, { on := 9, ground := Ground.chain }, { on := 0, ground := Ground.phase }, { on := 1, ground := Ground.phase }, { on := 2, ground := Ground.phase }, { on := 3, ground := Ground.phase }, { on := 4, ground := Ground.phase }, { on := 5, ground := Ground.phase }, { on := 6, ground := Ground.phase }, { on := 7, ground := Ground.phase }, { on := 8, ground := Ground.phase }, { on := 9, ground := Ground.phase }, { on := 10, ground := Ground.phase }], guard := none }) (v := ?_) rfl (by kernel_rfl) (by kernel_rfl) (by kernel_rfl) (fun _ _ _ h => h) (Or.inl ⟨by rfl, ?_⟩) hHeld ?_
      rotate_left 1
      · intro u hSu
        have hO := K3.out.keep hSu.out
        have c0 := cell_of_row _ _ 0 _ _ _ hO.db
        obtain ⟨t0, t1⟩ := row_cells hO.tb
        go_simp
        first | done | with_reducible rfl
      (try simp only [Act.put, List.setIfInBounds_toArray, List.set_cons_zero, List.set_cons_succ])
      refine wpAnyH_done (by kernel_rfl) ?_ _
      have HG := Lib.hid (grown_trans K3.out.gr hHeld.out)
      clear hHeld HD K3 HF HV
      go_wp2_with fail
      go_ret
      exact ⟨rfl, HG.out⟩
end Go.Proofs.Ytnpkihioklpnmaa

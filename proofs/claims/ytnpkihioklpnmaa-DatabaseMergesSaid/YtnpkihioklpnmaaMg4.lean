/- Parts of the proof, packed: ToJoin, ToCheck, ToNear, ToHop. -/
import Derived.Test.YtnpkihioklpnmaaMg3
import Derived.Lib.SmallJoins
/- topology: joinsUnknown. -/
namespace Go.Proofs.Ytnpkihioklpnmaa
open Go.RowKit Bs
/-- While the routers are noted. -/
structure JK (w : World) (vR vL : Value) (l : List Rt) (wr : World) : Prop where
  row : TRow wr (w.heap.size + 1) 161 (kn l)
  box : wr.heap[w.heap.size]? = some (.cells #[vR, vL] 59 (0, 0))
  gr : w.grownBy wr none
set_option maxRecDepth 100000 in
theorem JK.start (w : World) (vR vL : Value) : JK w vR vL [] ((w.alloc (.cells #[vR, vL] 59)).alloc (.cells Try.zeroCells161 161)) := by
  obtain ⟨k1, k2, k3, _⟩ := two_boxes w #[vR, vL] Try.zeroCells161 59 161
  exact ⟨k2, k1, k3⟩
set_option maxRecDepth 100000 in
theorem JK.keep {w wr w' : World} {vR vL : Value} {l : List Rt} (h : JK w vR vL l wr) (g : wr.grownBy w' none) : JK w vR vL l w' :=
  ⟨h.row.kept g (by simp), kept_row h.box g (by simp), grown_trans h.gr g⟩
set_option maxRecDepth 100000 in
theorem JK.put {w wr : World} {vR vL : Value} {l : List Rt} (h : JK w vR vL l wr) {r : Rt} {n : Nat} (hr : r.id = (n : Int)) (hn : n < 100) : JK w vR vL (l ++ [r]) (wr.setCell ⟨w.heap.size + 1, n, none⟩ (.bool true)) := by
  have k := grown_setCell wr ⟨w.heap.size + 1, n, none⟩ (.bool true)
  refine ⟨?_, kept_row h.box k (fun e => by have : w.heap.size = w.heap.size + 1 := Option.some.inj e; omega), grown_new h.gr k (by show _ ≤ w.heap.size + 1; omega)⟩
  rw [← kn_snoc hr hn]
  exact h.row.set n _
set_option maxRecDepth 100000 in
set_option maxHeartbeats 3200000 in
theorem tjoins_any (T : Tg) (w : World) (hT : TgOk w (fun _ => True) T) (hid : T.R.any wrId = false) :
    Calls Try.prog 104 #[.agg #[.slice T.pR T.R.length T.cR, .slice T.pL T.L.length T.cL]] w fun e w' => e = .returned (.bool (T.L.any (unk T.R))) ∧ w.grownBy w' none := by
  obtain ⟨R, L, pR, cR, pL, cL⟩ := T
  simp only at hid ⊢
  have hJ := JK.start w (.slice pR R.length cR) (.slice pL L.length cL)
  have HT := Lib.hid hT
  have HI := Lib.hid hid
  have hmR := Nat.le_trans hT.cr.1 hT.cr.2
  have hmL := Nat.le_trans hT.cl.1 hT.cl.2
  clear hT hid
  have JS := Lib.hid hJ
  clear hJ
  go_enter Try.func104, Try.ntmps104
  go_upto_region 2 with fail
  generalize (w.alloc _).alloc _ = wa at *
  obtain ⟨c0, c1⟩ := row_cells JS.out.box
  go_wp2_with fail
  go_loopw [11] (fun a wr => ∃ k : Nat, k ≤ R.length ∧ a = .int .i64 (k : Int) ∧ Hid (JK w (.slice pR R.length cR) (.slice pL L.length cL) (R.take k) wr)) (fun a _ => R.length - (RowKit.intOf a).toNat)
  case atStart => exact ⟨0, Nat.zero_le _, rfl, JS⟩
  case round =>
    obtain ⟨k, hk, rfl, J⟩ := hrel
    clear JS c0 c1
    by_cases hlt : k < R.length
    · have HTr := HT.out.keep J.out.gr
      obtain ⟨-, b, off, rfl, -, hc⟩ := rdr_cells (R := R) HTr.r (by omega)
      obtain ⟨x, hx⟩ : ∃ x, R[k]? = some x := ⟨_, List.getElem?_eq_getElem hlt⟩
      obtain ⟨n, hn, hn1, hn2⟩ := wr_at HI.out hx
      obtain ⟨a0, a1⟩ := hc k x hx
      rw [hn] at a0
      have HX := Lib.hid (And.intro hx hn)
      have gal := World.grownBy_alloc wr (.cells #[.int .i64 (n : Int), .bool x.cap] 69) none
      have J2 := Lib.hid (J.out.keep gal)
      have hc2 := J2.out.row.cell (kn_at (l := R.take k) hn2)
      have hf2 := J2.out.row.frozen n
      have n0 : (0 : Int) ≤ (n : Int) := by omega
      have n1 : (n : Int) < 100 := by omega
      clear hc hx hn gal HTr
      go_wp2_with fail
      refine ⟨⟨k + 1, by omega, congrArg _ (by omega), Lib.hid ?_⟩, by simp only [RowKit.intOf]; omega⟩
      have h9 := J2.out.put HX.out.2 hn2
      rw [show R.take k ++ [x] = R.take (k + 1) by rw [List.take_add_one, HX.out.1]; rfl] at h9
      exact h9
    · obtain rfl : k = R.length := by omega
      obtain ⟨wo, rfl⟩ : ∃ wo : World, wo = wr := ⟨_, rfl⟩
      have hJ := J.out
      rw [List.take_length] at hJ
      have J1 := Lib.hid hJ
      obtain ⟨c0, c1⟩ := row_cells J1.out.box
      have HTr := Lib.hid (HT.out.keep J1.out.gr)
      clear J hJ HT
      go_wp2_with fail
      go_loopw [22] (fun a wr => ∃ k : Nat, k ≤ L.length ∧ a = .int .i64 (k : Int) ∧ Hid (wo.grownBy wr none) ∧ Hid ((L.take k).any (unk R) = false)) (fun a _ => L.length - (RowKit.intOf a).toNat)
      case atStart => exact ⟨0, Nat.zero_le _, rfl, Lib.hid (grown_refl _ _), Lib.hid rfl⟩
      case round =>
        obtain ⟨k, hk, rfl, G, HN⟩ := hrel
        clear c0 c1
        by_cases hlt : k < L.length
        · obtain ⟨-, b, off, rfl, -, hc⟩ := rdl_cells (L := L) (HTr.out.keep G.out).l (by omega)
          obtain ⟨x, hx⟩ : ∃ x, L[k]? = some x := ⟨_, List.getElem?_eq_getElem hlt⟩
          obtain ⟨a0, a1, a2, a3, a4⟩ := hc k x hx
          have gal := World.grownBy_alloc wr (.cells #[.int .i64 x.a, .int .i64 x.b, .int .i64 x.ca, .int .i64 x.cb, .int .i64 x.cp] 71) none
          obtain ⟨d0, d1, d2, d3, d4⟩ := lk_facts (heap_alloc_new wr (.cells #[.int .i64 x.a, .int .i64 x.b, .int .i64 x.ca, .int .i64 x.cb, .int .i64 x.cp] 71))
          have J2 := Lib.hid (J1.out.keep (grown_trans G.out gal))
          have G2 := Lib.hid (grown_trans G.out gal)
          have HX := Lib.hid hx
          clear hc hx gal
          go_upto_region 10 with fail
          generalize wr.alloc _ = wy at *
          have fin : Hid (unk R x = true) → ∀ w', Hid (wy.grownBy w' none) → Hid (L.any (unk R) = true ∧ w.grownBy w' none) := fun h1 w' h2 => Lib.hid ⟨any_at HX.out h1.out, grown_trans J2.out.gr h2.out⟩
          have GY : Hid (wy.grownBy wy none) := Lib.hid (grown_refl _ _)
          by_cases hA : 1 ≤ x.a ∧ x.a ≤ 99
          · have eA : decide (1 ≤ x.a ∧ x.a ≤ 99) = true := decide_eq_true hA
            by_cases hB : 1 ≤ x.b ∧ x.b ≤ 99
            · have eB : decide (1 ≤ x.b ∧ x.b ≤ 99) = true := decide_eq_true hB
              obtain ⟨A, hA2⟩ := Int.eq_ofNat_of_zero_le (show 0 ≤ x.a by omega)
              obtain ⟨B, hB2⟩ := Int.eq_ofNat_of_zero_le (show 0 ≤ x.b by omega)
              have kA := J2.out.row.cell (kn_at (l := R) (i := A) (by omega))
              have kB := J2.out.row.cell (kn_at (l := R) (i := B) (by omega))
              have iA0 : (0 : Int) ≤ (A : Int) := by omega
              have iA1 : (A : Int) < 100 := by omega
              have iB0 : (0 : Int) ≤ (B : Int) := by omega
              have iB1 : (B : Int) < 100 := by omega
              have HU : Hid (unk R x = (!hasR R (A : Int) || !hasR R (B : Int))) := Lib.hid (by unfold unk; rw [hA2, hB2])
              change decide (1 ≤ x.a ∧ x.a ≤ 99) = true at eA
              rw [hA2] at d0 eA
              rw [hB2] at d1 eB
              clear hA2 hB2 hA hB
              cases hha : hasR R (A : Int)
              · rw [hha] at kA HU
                have HF := fin (Lib.hid (by rw [HU.out]; try rfl))
                clear fin HU
                go_wp2_with (go_at_call 128; refine (twithin_any _ _ _ _).mono ?_; rintro e w' ⟨rfl, rfl⟩; try simp only [eA, eB])
                go_ret
                have h9 := (HF _ GY).out
                rw [h9.1]
                exact ⟨rfl, h9.2⟩
              · cases hhb : hasR R (B : Int)
                · rw [hhb] at kB HU
                  rw [hha] at kA
                  have HF := fin (Lib.hid (by rw [HU.out, hha]; try rfl))
                  clear fin HU
                  go_wp2_with (go_at_call 128; refine (twithin_any _ _ _ _).mono ?_; rintro e w' ⟨rfl, rfl⟩; try simp only [eA, eB])
                  go_ret
                  have h9 := (HF _ GY).out
                  rw [h9.1]
                  exact ⟨rfl, h9.2⟩
                · rw [hhb] at kB HU
                  rw [hha] at kA HU
                  clear fin
                  go_wp2_with (go_at_call 128; refine (twithin_any _ _ _ _).mono ?_; rintro e w' ⟨rfl, rfl⟩; try simp only [eA, eB])
                  exact ⟨⟨k + 1, by omega, congrArg _ (by omega), G2, Lib.hid (any_take HN.out HX.out HU.out)⟩, by simp only [RowKit.intOf]; omega⟩
            · have eB : decide (1 ≤ x.b ∧ x.b ≤ 99) = false := decide_eq_false hB
              have HF := fin (Lib.hid (by
                unfold unk
                cases h : hasR R x.b
                · simp
                · exact absurd (hasR_range HI.out h) hB))
              clear fin
              go_wp2_with (go_at_call 128; refine (twithin_any _ _ _ _).mono ?_; rintro e w' ⟨rfl, rfl⟩; try simp only [eA, eB])
              go_ret
              have h9 := (HF _ GY).out
              rw [h9.1]
              exact ⟨rfl, h9.2⟩
          · have eA : decide (1 ≤ x.a ∧ x.a ≤ 99) = false := decide_eq_false hA
            have HF := fin (Lib.hid (by
              unfold unk
              cases h : hasR R x.a
              · simp
              · exact absurd (hasR_range HI.out h) hA))
            clear fin
            go_wp2_with (go_at_call 128; refine (twithin_any _ _ _ _).mono ?_; rintro e w' ⟨rfl, rfl⟩; try simp only [eA])
            go_ret
            have h9 := (HF _ GY).out
            rw [h9.1]
            exact ⟨rfl, h9.2⟩
        · obtain rfl : k = L.length := by omega
          go_wp2_with fail
          go_ret
          rw [any_end HN.out (Nat.le_refl _)]
          exact ⟨rfl, grown_trans J1.out.gr G.out⟩
end Go.Proofs.Ytnpkihioklpnmaa

/- topology: Check, valid. -/
namespace Go.Proofs.Ytnpkihioklpnmaa
open Go.RowKit Bs
/-- A topology that came in as a value lies in the call's own box. -/
structure CK (w : World) (T : Tg) (wr : World) : Prop where
  box : wr.heap[w.heap.size]? = some (.cells #[.slice T.pR T.R.length T.cR, .slice T.pL T.L.length T.cL] 59 (0, 0))
  gr : w.grownBy wr none
  ok : TgOk wr (fun _ => True) T
set_option maxRecDepth 100000 in
theorem CK.keep {w wr w' : World} {T : Tg} (h : CK w T wr) (g : wr.grownBy w' none) : CK w T w' := ⟨kept_row h.box g (by simp), grown_trans h.gr g, h.ok.keep g⟩
set_option maxRecDepth 100000 in
theorem CK.start {w : World} {q : Nat → Prop} {T : Tg} (h : TgOk w q T) : CK w T (w.alloc (.cells #[.slice T.pR T.R.length T.cR, .slice T.pL T.L.length T.cL] 59)) :=
  have k := World.grownBy_alloc w (.cells #[.slice T.pR T.R.length T.cR, .slice T.pL T.L.length T.cL] 59) none
  ⟨heap_alloc_new w _, k, (h.mono fun _ _ => trivial).keep k⟩
set_option maxRecDepth 100000 in
theorem twrend_any (l : Lk) (w : World) :
    Calls Try.prog 105 #[.agg #[.int .i64 l.a, .int .i64 l.b, .int .i64 l.ca, .int .i64 l.cb, .int .i64 l.cp]] w fun e w' => e = .returned (.bool (wrEnd l)) ∧ w.grownBy w' none := by
  obtain ⟨k1, k2⟩ := tone_box w #[.int .i64 l.a, .int .i64 l.b, .int .i64 l.ca, .int .i64 l.cb, .int .i64 l.cp] 71
  obtain ⟨c0, c1, c2, c3, c4⟩ := lk_facts k1
  have K := Lib.hid k2
  clear k1 k2
  go_enter Try.func105, Try.ntmps105
  go_wp2_with fail
  go_ret
  exact ⟨by unfold wrEnd; simp, K.out⟩
set_option maxRecDepth 100000 in
set_option maxHeartbeats 3200000 in
theorem tcheck_any (T : Tg) (q : Nat → Prop) (w : World) (hT : TgOk w q T) :
    Calls Try.prog 68 #[.agg #[.slice T.pR T.R.length T.cR, .slice T.pL T.L.length T.cL]] w fun e w' => e = .returned (.int .i64 (chk T.R T.L)) ∧ w.grownBy w' none := by
  have C0 := Lib.hid (CK.start hT)
  have hmR := Nat.le_trans hT.cr.1 hT.cr.2
  have hmL := Nat.le_trans hT.cl.1 hT.cl.2
  have e1 : EnterF 99 := enters_of Try.func99 (by kernel_rfl) rfl
  have e2 : EnterF 103 := enters_of Try.func103 (by kernel_rfl) rfl
  have e3 : EnterF 105 := enters_of Try.func105 (by kernel_rfl) rfl
  have E1 := Lib.hid e1
  have E2 := Lib.hid e2
  have E3 := Lib.hid e3
  clear hT e1 e2 e3
  obtain ⟨R, L, pR, cR, pL, cL⟩ := T
  simp only at hmR hmL C0 ⊢
  go_enter Try.func68, Try.ntmps68
  go_upto_region 1 with fail
  generalize w.alloc _ = wa at *
  obtain ⟨c0, c1⟩ := row_cells C0.out.box
  by_cases h1 : R.length ≤ 24
  case neg =>
    have h1' : (24 : Int) < (R.length : Int) := by omega
    go_wp2_with fail
    go_ret
    exact ⟨by unfold chk; rw [if_pos (by omega)]; rfl, C0.out.gr⟩
  by_cases h2 : L.length ≤ 60
  case neg =>
    have h1' : ¬ (24 : Int) < (R.length : Int) := by omega
    have h2' : (60 : Int) < (L.length : Int) := by omega
    go_wp2_with fail
    go_ret
    exact ⟨by unfold chk; rw [if_pos (by omega)]; rfl, C0.out.gr⟩
  have hc0 : Hid (¬ (24 < R.length ∨ 60 < L.length)) := Lib.hid (by omega)
  go_wp2_with fail
  refine (tcontR_any 99 #[] wrId E1.out R pR cR _ wa C0.out.ok.r hmR (fun r w' _ => twrid_any r w')).mono ?_
  rintro e w1 ⟨rfl, hg⟩
  have C1 := Lib.hid (C0.out.keep hg)
  clear hg C0 c0 c1
  obtain ⟨c0, c1⟩ := row_cells C1.out.box
  cases f1 : R.any wrId
  case true =>
    have F1 := Lib.hid f1
    clear f1
    go_wp2_with fail
    go_ret
    exact ⟨by unfold chk; rw [if_neg hc0.out, F1.out]; rfl, C1.out.gr⟩
  have F1 := Lib.hid f1
  clear f1
  go_wp2_with fail
  refine (tascR_any R pR cR _ w1 C1.out.ok.r hmR).mono ?_
  rintro e w2 ⟨rfl, hg⟩
  have C2 := Lib.hid (C1.out.keep hg)
  clear hg C1 c0 c1
  obtain ⟨c0, c1⟩ := row_cells C2.out.box
  cases f2 : ascB ltR R
  case false =>
    have F2 := Lib.hid f2
    clear f2
    go_wp2_with fail
    go_ret
    exact ⟨by unfold chk; rw [if_neg hc0.out, F1.out, F2.out]; rfl, C2.out.gr⟩
  have F2 := Lib.hid f2
  clear f2
  go_wp2_with fail
  refine (tcontL_any 103 #[] wrNum E2.out L pL cL _ w2 C2.out.ok.l hmL (fun r w' _ => twrnum_any r w')).mono ?_
  rintro e w3 ⟨rfl, hg⟩
  have C3 := Lib.hid (C2.out.keep hg)
  clear hg C2 c0 c1
  obtain ⟨c0, c1⟩ := row_cells C3.out.box
  cases f3 : L.any wrNum
  case true =>
    have F3 := Lib.hid f3
    clear f3
    go_wp2_with fail
    go_ret
    exact ⟨by unfold chk; rw [if_neg hc0.out, F1.out, F2.out, F3.out]; rfl, C3.out.gr⟩
  have F3 := Lib.hid f3
  clear f3
  go_wp2_with fail
  refine (tjoins_any ⟨R, L, pR, cR, pL, cL⟩ w3 C3.out.ok F1.out).mono ?_
  rintro e w4 ⟨rfl, hg⟩
  have C4 := Lib.hid (C3.out.keep hg)
  clear hg C3 c0 c1
  obtain ⟨c0, c1⟩ := row_cells C4.out.box
  simp only
  cases f4 : L.any (unk R)
  case true =>
    have F4 := Lib.hid f4
    clear f4
    go_wp2_with fail
    go_ret
    exact ⟨by unfold chk; rw [if_neg hc0.out, F1.out, F2.out, F3.out, F4.out]; rfl, C4.out.gr⟩
  have F4 := Lib.hid f4
  clear f4
  go_wp2_with fail
  refine (tcontL_any 105 #[] wrEnd E3.out L pL cL _ w4 C4.out.ok.l hmL (fun r w' _ => twrend_any r w')).mono ?_
  rintro e w5 ⟨rfl, hg⟩
  have C5 := Lib.hid (C4.out.keep hg)
  clear hg C4 c0 c1
  obtain ⟨c0, c1⟩ := row_cells C5.out.box
  cases f5 : L.any wrEnd
  case true =>
    have F5 := Lib.hid f5
    clear f5
    go_wp2_with fail
    go_ret
    exact ⟨by unfold chk; rw [if_neg hc0.out, F1.out, F2.out, F3.out, F4.out, F5.out]; rfl, C5.out.gr⟩
  have F5 := Lib.hid f5
  clear f5
  go_wp2_with fail
  refine (tascL_any L pL cL _ w5 C5.out.ok.l hmL).mono ?_
  rintro e w6 ⟨rfl, hg⟩
  have C6 := Lib.hid (C5.out.keep hg)
  clear hg C5 c0 c1
  cases f6 : ascB ltL L
  case false =>
    have F6 := Lib.hid f6
    clear f6
    go_wp2_with fail
    go_ret
    exact ⟨by unfold chk; rw [if_neg hc0.out, F1.out, F2.out, F3.out, F4.out, F5.out, F6.out]; rfl, C6.out.gr⟩
  have F6 := Lib.hid f6
  clear f6
  go_wp2_with fail
  go_ret
  exact ⟨by unfold chk; rw [if_neg hc0.out, F1.out, F2.out, F3.out, F4.out, F5.out, F6.out]; rfl, C6.out.gr⟩
/-- Is a topology valid? -/
def okT (R : List Rt) (L : List Lk) : Bool := chk R L == 0
set_option maxRecDepth 100000 in
set_option maxHeartbeats 3200000 in
theorem tvalid_any (T : Tg) (q : Nat → Prop) (w : World) (hT : TgOk w q T) :
    Calls Try.prog 96 #[.agg #[.slice T.pR T.R.length T.cR, .slice T.pL T.L.length T.cL]] w fun e w' => e = .returned (.bool (okT T.R T.L)) ∧ w.grownBy w' none := by
  have C0 := Lib.hid (CK.start hT)
  clear hT
  go_enter Try.func96, Try.ntmps96
  go_upto_region 1 with fail
  generalize w.alloc _ = wa at *
  obtain ⟨c0, c1⟩ := row_cells C0.out.box
  go_wp2_with (go_at_call 68; refine (tcheck_any T _ wa C0.out.ok).mono ?_; rintro e w1 ⟨rfl, hg⟩; have HG := Lib.hid hg; clear hg)
  go_ret
  exact ⟨rfl, grown_trans C0.out.gr HG.out⟩
end Go.Proofs.Ytnpkihioklpnmaa

/- topology: neighbours. -/
namespace Go.Proofs.Ytnpkihioklpnmaa
open Go.RowKit Bs
def tv (z : Int) : Value := .int .i64 z
def nb1 (x : Int) (l : Lk) : List Int := (if l.b = x then [l.a] else []) ++ (if l.a = x then [l.b] else [])
/-- The other ends of a router's links. -/
def nbL (L : List Lk) (x : Int) : List Int := L.flatMap (nb1 x)
set_option maxRecDepth 100000 in
theorem nbL_snoc {L : List Lk} {k : Nat} {l : Lk} (x : Int) (h : L[k]? = some l) : nbL (L.take (k + 1)) x = nbL (L.take k) x ++ nb1 x l := by
  unfold nbL
  rw [List.take_add_one, h]
  simp
/-- Numbers in a row of the call's own. -/
structure NK (w : World) (v : Value) (l : List Int) (wr : World) : Prop where
  own : wr.ownsRow w.heap.size 3 1 v l.length (l.map tv)
  gr : w.grownBy wr none
set_option maxRecDepth 100000 in
theorem NK.keep {w wr w' : World} {v : Value} {l : List Int} (h : NK w v l wr) (g : wr.grownBy w' none) : NK w v l w' :=
  ⟨h.own.kept g (by cases hv : v.ownBlock <;> simp), grown_trans h.gr g⟩
set_option maxRecDepth 100000 in
theorem NK.more {w wr wy w1 : World} {v v' : Value} {l : List Int} {x : Int} {o : Obj} (h : NK w v l wr) (g : wr.grownBy wy none) (hown' : w1.ownsRow w.heap.size 3 1 v' (l.length + 1) (l.map tv ++ [.int .i64 x])) (hg : (wy.alloc o).grownBy w1 v.ownBlock) :
    NK w v' (l ++ [x]) w1 ∧ (∀ b ob, wr.heap.size ≤ b → wy.heap[b]? = some ob → w1.heap[b]? = some ob) := by
  have hy := h.keep g
  refine ⟨⟨?_, own_step hy.gr hy.own hg⟩, fun b ob hb he => ?_⟩
  · rw [List.length_append, List.map_append]; exact hown'
  · have k0 := World.grownBy_alloc wy o none
    refine kept_row (kept_row he k0 (by simp)) hg (fun e => ?_)
    have := (h.own.lt b e.symm).2
    omega
/-- What returns a list that can be read. -/
def TRet (l : List Int) (w : World) (e : Ending) (w' : World) : Prop := ∃ p c, e = .returned (.slice p l.length c) ∧ Rd w' (w.heap.size ≤ ·) (.slice p l.length c) (l.map tv) ∧ (l.length ≤ c ∧ c ≤ 9223372036854775807) ∧ (p = none → c = 0) ∧ w.grownBy w' none
set_option maxRecDepth 100000 in
theorem NK.ret {w wr : World} {v : Value} {l : List Int} (h : NK w v l wr) : ∃ p c, v = .slice p l.length c ∧ Rd wr (w.heap.size ≤ ·) (.slice p l.length c) (l.map tv) ∧ (l.length ≤ c ∧ c ≤ 9223372036854775807) ∧ (p = none → c = 0) ∧ w.grownBy wr none := by
  have hr := rd_of_own h.own
  rcases Joins.ownsRow_forms h.own with ⟨e, e0⟩ | ⟨g, cap, e⟩
  · subst e
    obtain rfl := List.eq_nil_of_length_eq_zero e0
    exact ⟨none, 0, rfl, hr, ⟨Nat.le_refl _, by omega⟩, fun _ => rfl, h.gr⟩
  · subst e
    have := own_cap h.own
    unfold maxLen at this
    exact ⟨_, cap, rfl, hr, ⟨this.1, by omega⟩, (fun e => by cases e), h.gr⟩
set_option maxRecDepth 100000 in
theorem nb1_len (x : Int) (l : Lk) : (nb1 x l).length ≤ 2 := by
  unfold nb1
  split <;> split <;> simp
set_option maxRecDepth 100000 in
theorem nbL_len (x : Int) : ∀ L : List Lk, (nbL L x).length ≤ 2 * L.length
  | [] => by simp [nbL]
  | l :: L => by
    have h1 := nb1_len x l
    have h2 := nbL_len x L
    unfold nbL at *
    rw [List.flatMap_cons, List.length_append, List.length_cons]
    omega
end Go.Proofs.Ytnpkihioklpnmaa

/- topology: Contains of numbers and of hops; the closures of Without. -/
namespace Go.Proofs.Ytnpkihioklpnmaa
open Go.RowKit Bs
structure Hp where
  f : Int
  t : Int
def hpC (h : Hp) : List Value := [.int .i64 h.f, .int .i64 h.t]
abbrev RdH (w : World) (q : Nat → Prop) (v : Value) (H : List Hp) : Prop := RdF w q v H.length (H.flatMap hpC)
set_option maxRecDepth 100000 in
theorem rdh_cells {w : World} {q : Nat → Prop} {p : Option Addr} {n c : Nat} {H : List Hp} (h : RdH w q (.slice p n c) H) (hn : 0 < H.length) :
    n = H.length ∧ ∃ b off, p = some ⟨b, off, none⟩ ∧ q b ∧ ∀ i x, H[i]? = some x → w.cell? ⟨b, off + i * 2, none⟩ = some (.int .i64 x.f) ∧ w.cell? ⟨b, off + i * 2 + 1, none⟩ = some (.int .i64 x.t) := by
  obtain ⟨h0, b, off, hp, hq, hc⟩ := RdF.cells (f := hpC) (k := 2) (fun _ => rfl) (by decide) h hn
  exact ⟨h0, b, off, hp, hq, fun i x hi => ⟨hc i x hi 0 _ rfl, hc i x hi 1 _ rfl⟩⟩
def isH (a b : Int) (h : Hp) : Bool := decide (h.f = a ∧ h.t = b)
def hasI (X : List Int) (x : Int) : Bool := X.any fun y => decide (y = x)
set_option maxRecDepth 100000 in
theorem hp_facts {w : World} {b : Nat} {h : Hp} (hb : w.heap[b]? = some (.cells #[.int .i64 h.f, .int .i64 h.t] 142 (0, 0))) : w.cell? ⟨b, 0, none⟩ = some (.int .i64 h.f) ∧ w.cell? ⟨b, 1, none⟩ = some (.int .i64 h.t) := row_cells hb
end Go.Proofs.Ytnpkihioklpnmaa

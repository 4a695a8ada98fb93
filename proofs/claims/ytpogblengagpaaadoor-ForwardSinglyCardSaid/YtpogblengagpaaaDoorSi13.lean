/- Parts of the proof, packed: FwW, FwX. -/
import Derived.Test.YtpogblengagpaaaDoorSi10
import Derived.Test.YtpogblengagpaaaDoorSi12
import Derived.Test.YtpogblengagpaaaDoorSi8
import Derived.Test.YtpogblengagpaaaDoorSi7
/- forward: Packet. -/
namespace Go.Proofs.YtpogblengagpaaaDoor
set_option maxRecDepth 100000
open Go.RowKit Go.Maps Bs
structure FL (W : World) (r s n : Int) (p : Option Addr) (c : Nat) (L : List Rw) (P : Pk) (Z C : Nat) (pm : Option Addr) (cm : Nat) (M : List Md) (loc lost : Nat) (pc : Option Addr) (cc : Nat) (cs : List (Int × Nat)) (w : World) : Prop where
 fb : FB W W.heap.size r s n p c L P w
 rb : w.heap[W.heap.size + 1 + 1]? = some (.cells #[.int .u64 0, .int .u64 0, .slice none 0 0] 35 (0, 0))
 ob : w.heap[Z]? = some (.cells #[.int .u64 (loc : Int), .int .u64 (lost : Int), .slice pc cs.length cc] 35 (0, 0))
 ms : RdF w (fun b => b < C ∧ b ≠ Z) (.slice pm M.length cm) M.length (M.flatMap mdC)
 own : w.ownsRow C 43 12 (.slice pc cs.length cc) cs.length (cs.flatMap (cyC P))
 lo : W.heap.size + 1 + 1 < Z ∧ Z < C ∧ C ≤ w.heap.size
 tb : Tb w
variable {W w w1 : World} {r s n : Int} {p : Option Addr} {c : Nat} {L : List Rw} {P : Pk} {Z C : Nat} {pm : Option Addr} {cm : Nat} {M : List Md} {loc lost : Nat} {pc : Option Addr} {cc : Nat} {cs : List (Int × Nat)}
theorem FL.keep (h : FL W r s n p c L P Z C pm cm M loc lost pc cc cs w) (g : w.grownBy w1 none) : FL W r s n p c L P Z C pm cm M loc lost pc cc cs w1 :=
 ⟨h.fb.keep g, kept_row h.rb g (by simp), kept_row h.ob g (by simp), h.ms.grown g (fun _ _ => by simp), h.own.kept g (by cases (Value.slice pc cs.length cc).ownBlock <;> simp), ⟨h.lo.1, h.lo.2.1, Nat.le_trans h.lo.2.2 g.size⟩, h.tb.keep g⟩
theorem Tb.lt {w : World} (h : Tb w) : 0 < w.heap.size := by
 have h0 := h 0 (by decide)
 rcases Nat.lt_or_ge 0 w.heap.size with h1 | h1
 ·exact h1
 ·rw [World.cell?, Array.getElem?_eq_none h1] at h0
  cases h0
theorem FL.over {pc2 : Option Addr} {cc2 : Nat} {cs2 : List (Int × Nat)} (h : FL W r s n p c L P Z C pm cm M loc lost pc cc cs w) (hT : Tb W) (g : w.grownBy w1 (Value.slice pc cs.length cc).ownBlock) (hown : w1.ownsRow C 43 12 (.slice pc2 cs2.length cc2) cs2.length (cs2.flatMap (cyC P))) {loc2 lost2 : Nat} {w2 : World} (j : w1.grownBy w2 (some Z)) (hob : w2.heap[Z]? = some (.cells #[.int .u64 (loc2 : Int), .int .u64 (lost2 : Int), .slice pc2 cs2.length cc2] 35 (0, 0))) :
  FL W r s n p c L P Z C pm cm M loc2 lost2 pc2 cc2 cs2 w2 := by
 have hlo := h.lo
 have hge : ∀ b, (Value.slice pc cs.length cc).ownBlock = some b → C ≤ b := fun b e => (h.own.lt b e).1
 have hge2 : ∀ b, (Value.slice pc2 cs2.length cc2).ownBlock = some b → C ≤ b := fun b e => (hown.lt b e).1
 have hW := h.fb.gr.size
 have hz := hT.lt
 have ne1 : ∀ k, k < C → some k ≠ (Value.slice pc cs.length cc).ownBlock := fun k hk e => by have := hge k e.symm; omega
 have ne2 : ∀ k, k < Z → some k ≠ some Z := fun k hk e => by have := Option.some.inj e; omega
 have gr1 : W.grownBy w1 none := grown_any h.fb.gr g (fun b hb => ne1 b (by omega))
 have gr2 : W.grownBy w2 none := grown_any gr1 j (fun b hb => ne2 b (by omega))
 exact ⟨⟨kept_row (kept_row h.fb.bx g (ne1 _ (by omega))) j (ne2 _ (by omega)), kept_row (kept_row h.fb.pb g (ne1 _ (by omega))) j (ne2 _ (by omega)), (h.fb.rd.grown g (fun b hb => ne1 b (by omega))).grown j (fun b hb => ne2 b (by omega)), gr2, Nat.le_refl _⟩,
  kept_row (kept_row h.rb g (ne1 _ (by omega))) j (ne2 _ (by omega)), hob, (h.ms.grown g (fun b hb => ne1 b hb.1)).grown j (fun b hb e => hb.2 (Option.some.inj e)),
  hown.kept j (Or.inr (fun e => by have := hge2 Z e; omega)), ⟨hlo.1, hlo.2.1, Nat.le_trans hlo.2.2 (Nat.le_trans g.size j.size)⟩,
  (h.tb.grown g (fun e => ne1 _ (by omega) e.symm)).grown j (fun e => ne2 _ (by omega) e.symm)⟩
theorem FL.put {pc2 : Option Addr} {cc2 : Nat} {cs2 : List (Int × Nat)} (h : FL W r s n p c L P Z C pm cm M loc lost pc cc cs w) (hT : Tb W) (g : w.grownBy w1 (Value.slice pc cs.length cc).ownBlock) (hown : w1.ownsRow C 43 12 (.slice pc2 cs2.length cc2) cs2.length (cs2.flatMap (cyC P))) (loc2 lost2 : Nat) :
  FL W r s n p c L P Z C pm cm M loc2 lost2 pc2 cc2 cs2 (((w1.setCell ⟨Z, 0, none⟩ (.int .u64 (loc2 : Int))).setCell ⟨Z, 1, none⟩ (.int .u64 (lost2 : Int))).setCell ⟨Z, 2, none⟩ (.slice pc2 cs2.length cc2)) :=
 h.over hT g hown (ob_grown _ _ _ _ _) (ob_put _ _ _ (kept_row h.ob g (fun e => by have := (h.own.lt _ e.symm).1; have := h.lo.2.1; omega)))
structure F0 (W : World) (r s n : Int) (p : Option Addr) (c : Nat) (L : List Rw) (P : Pk) (w : World) : Prop where
 fb : FB W W.heap.size r s n p c L P w
 rb : w.heap[W.heap.size + 1 + 1]? = some (.cells #[.int .u64 0, .int .u64 0, .slice none 0 0] 35 (0, 0))
 tb : Tb w
theorem F0.keep (h : F0 W r s n p c L P w) (g : w.grownBy w1 none) : F0 W r s n p c L P w1 := ⟨h.fb.keep g, kept_row h.rb g (by simp), h.tb.keep g⟩
theorem f0_start (hR : RdW w (· < w.heap.size) p c L) (hT : Tb w) : F0 w r s n p c L P (((w.alloc (.cells #[.int .i64 r, .int .i64 s, .int .i64 n, .slice p L.length c] 27)).alloc (.cells (pcells P) 30)).alloc (.cells #[.int .u64 0, .int .u64 0, .slice none 0 0] 35)) := by
 have h1 := fb_start (r := r) (s := s) (n := n) (P := P) hR
 have h2 := heap_alloc_new ((w.alloc (.cells #[.int .i64 r, .int .i64 s, .int .i64 n, .slice p L.length c] 27)).alloc (.cells (pcells P) 30)) (.cells #[.int .u64 0, .int .u64 0, .slice none 0 0] 35)
 rw [show ((w.alloc (.cells #[.int .i64 r, .int .i64 s, .int .i64 n, .slice p L.length c] 27)).alloc (.cells (pcells P) 30)).heap.size = w.heap.size + 1 + 1 by simp] at h2
 have g := World.grownBy_alloc ((w.alloc (.cells #[.int .i64 r, .int .i64 s, .int .i64 n, .slice p L.length c] 27)).alloc (.cells (pcells P) 30)) (.cells #[.int .u64 0, .int .u64 0, .slice none 0 0] 35) none
 exact ⟨h1.keep g, h2, (hT.keep h1.gr).keep g⟩
set_option maxHeartbeats 6400000 in
theorem fwpk_any (r s n : Int) (p : Option Addr) (c : Nat) (L : List Rw) (P : Pk) (hP : P.Wf) (w : World) (hR : RdW w (· < w.heap.size) p c L) (hm : L.length ≤ 9223372036854775807) (hT : Tb w) :
  Calls Tryd.prog 8 #[.agg #[.int .i64 r, .int .i64 s, .int .i64 n, .slice p L.length c], P.val] w fun e w' => FwPost r s n L P w e w' := by
 have hval : P.val = .agg #[.int .i64 P.mode, .int .i64 P.sub, .int .i64 P.set, .int .i64 P.len, .int .i64 P.ttl, .int .i64 P.ent, .int .i64 P.ing, .int .i64 P.pro, .int .u64 (P.bits : Int), .string P.pay] := rfl
 rw [hval]
 have H0 := Lib.hid (f0_start (r := r) (s := s) (n := n) (P := P) hR hT)
 unfold pcells at H0
 have HT := Lib.hid hT
 clear hR hT
 go_enter Tryd.func8, Tryd.ntmps8
 go_upto_region 1 with fail
 generalize ((w.alloc _).alloc _).alloc _ = wa at *
 obtain ⟨a0, a1, a2, a3, a4, a5, a6, a7, a8, a9⟩ := p_facts H0.out.fb.pb
 obtain ⟨d0, d1, d2, d3⟩ := row4T H0.out.fb.bx
 go_step3
 go_wp2_with fail
 rw [← hval]
 refine (fwmis_any r s n p c L P hP wa H0.out.fb.all hm).mono ?_
 rintro e w1 ⟨rfl, hg⟩
 have H1 := Lib.hid (H0.out.keep hg)
 clear hg H0 d0 d1 d2 d3 a0 a1 a2 a3 a4 a5 a6 a7 a8 a9
 obtain ⟨E, hE⟩ : ∃ E, fwE r s n L P = E := ⟨_, rfl⟩
 have HE := Lib.hid hE
 rw [hE]
 clear hE
 by_cases h0 : E = 0
 case neg =>
  have h0' : (E != 0) = true := by simpa using h0
  have HZ := Lib.hid h0
  clear h0
  obtain ⟨⟨z0, z1, z2⟩, f0, f1, f2⟩ := row3f H1.out.rb
  go_wp2_with fail
  rw [Exit.noGoto_ret]
  refine bodyPost_ret (res_outcome_err rfl _ _ (w.heap.size + 1 + 1) _ rfl rfl (ob_put _ _ _ H1.out.rb)) rfl ?_
  exact ⟨E, 0, 0, [], none, 0, rfl, ⟨HE.out.symm, fun e => absurd e HZ.out, fun _ => ⟨rfl, rfl, rfl⟩, u64_zero, u64_zero⟩, World.ownsRow_nil _ _ _ _, grown_new H1.out.fb.gr (ob_grown _ _ _ _ _) (by omega)⟩
 subst h0
 obtain ⟨hck, hv, -, hsub, hlen⟩ := fwE_ok HE.out
 have HCK := Lib.hid (And.intro hck (And.intro hv (And.intro hsub hlen)))
 clear hck hv hsub hlen
 obtain ⟨k1, k2⟩ := tone_box w1 #[.int .u64 0, .int .u64 0, .slice none 0 0] 35
 have HZ := Lib.hid (And.intro (H1.out.keep k2) (And.intro k1 (And.intro (show w.heap.size + 1 + 1 < w1.heap.size from (Array.getElem?_eq_some_iff.1 H1.out.rb).1) (show (w1.alloc (.cells #[.int .u64 0, .int .u64 0, .slice none 0 0] 35)).heap.size = w1.heap.size + 1 by simp))))
 clear k1 k2 H1
 go_upto_region 5 with fail
 generalize w1.alloc _ = w2 at *
 generalize w1.heap.size = Z at *
 obtain ⟨a0, a1, a2, a3, a4, a5, a6, a7, a8, a9⟩ := p_facts HZ.out.1.fb.pb
 obtain ⟨d0, d1, d2, d3⟩ := row4T HZ.out.1.fb.bx
 refine wp_region_held_drew (S := fun w' => Hid (w2.grownBy w' none)) (by kernel_rfl) (Lib.hid (grown_drew (grown_refl _ none))) (fun hHeld => ?_)
 refine zT (i := 0) (v := ?_) rfl ?_ hHeld ?_
 rotate_left 1
 ·intro u hSu
  obtain ⟨a0u, a1u, a2u, a3u, a4u, a5u, a6u, a7u, a8u, a9u⟩ := p_facts (HZ.out.1.keep hSu.out).fb.pb
  obtain ⟨d0u, d1u, d2u, d3u⟩ := row4T (HZ.out.1.keep hSu.out).fb.bx
  go_simp
  first | done | with_reducible rfl
 try simp only [Act.put, zA, zB, zC]
 refine zT (i := 1) (v := ?_) rfl ?_ hHeld ?_
 rotate_left 1
 ·intro u hSu
  obtain ⟨a0u, a1u, a2u, a3u, a4u, a5u, a6u, a7u, a8u, a9u⟩ := p_facts (HZ.out.1.keep hSu.out).fb.pb
  obtain ⟨d0u, d1u, d2u, d3u⟩ := row4T (HZ.out.1.keep hSu.out).fb.bx
  go_simp
  first | done | with_reducible rfl
 try simp only [Act.put, zA, zB, zC]
 refine zT (i := 3) (v := ?_) rfl ?_ hHeld ?_
 rotate_left 1
 ·intro u hSu
  go_simp
  first | done | with_reducible rfl
 try simp only [Act.put, zA, zB, zC]
 refine zT (i := 4) (v := ?_) rfl ?_ hHeld ?_
 rotate_left 1
 ·intro u hSu
  obtain ⟨a0u, a1u, a2u, a3u, a4u, a5u, a6u, a7u, a8u, a9u⟩ := p_facts (HZ.out.1.keep hSu.out).fb.pb
  obtain ⟨d0u, d1u, d2u, d3u⟩ := row4T (HZ.out.1.keep hSu.out).fb.bx
  go_simp
  first | done | with_reducible rfl
 try simp only [Act.put, zA, zB, zC]
 refine wpAnyH_ready (rs := [2]) (by kernel_rfl) (by simp) ?_
 refine AllReadyH.cons (o := ⟨_, _, _, _, _, _⟩) rfl (fun Kz hK => ?_) AllReadyH.nil
 go_simp
 go_at_call 25
 refine (pplane_any P hP _).mono ?_
 rintro e' w7 ⟨rfl, hg⟩
 have HN := Lib.hid (grown_trans hHeld.out hg)
 clear hg
 simp only
 refine hK.out _ _ (HN) (fun hH2 => ?_)
 clear hK Kz hHeld
 have hHeld := hH2
 clear hH2
 try simp only [Act.put, zA, zB, zC]
 refine wpAnyH_ready (rs := [5]) (by kernel_rfl) (by simp) ?_
 refine AllReadyH.cons (o := ⟨_, _, _, _, _, _⟩) rfl (fun Kz hK => ?_) AllReadyH.nil
 go_simp
 go_at_call 24
 refine (mall_any r s n p c L (planeV P) P.set _ (HZ.out.1.keep hHeld.out).fb.all hm).mono ?_
 rintro e' w8 ⟨ts, pm, cm, rfl, hA, hO, hg⟩
 have HN2 := Lib.hid (grown_trans hHeld.out hg)
 have HA := Lib.hid (And.intro hA (And.intro hO hHeld.out.size))
 clear hA hO hg
 simp only
 refine hK.out _ _ (HN2) (fun hH2 => ?_)
 clear hK Kz hHeld
 have hHeld := hH2
 clear hH2
 try simp only [Act.put, zA, zB, zC]
 refine zT (i := 6) (v := ?_) rfl ?_ hHeld ?_
 rotate_left 1
 ·intro u hSu
  go_simp
  first | done | with_reducible rfl
 try simp only [Act.put, zA, zB, zC]
 refine wpAnyH_done (by kernel_rfl) ?_ _
 obtain ⟨M, hM⟩ : ∃ M, mdL (coF r s n L (planeV P) P.set) ts = M := ⟨_, rfl⟩
 have HMD : Hid (MdF n L P M) := Lib.hid (by rw [← hM]; exact mdF_of HCK.out.1 HA.out.1)
 have hO := HA.out.2.1
 rw [hM] at hO ⊢
 have hsz8 := hO
 obtain ⟨hms, hsz⟩ : RdF w8 (fun b => b < w8.heap.size ∧ b ≠ Z) (.slice pm M.length cm) M.length (M.flatMap mdC) ∧ w2.heap.size ≤ w8.heap.size := ⟨(rdf_of_own2 hO).mono (fun b hb => ⟨hb.2, by have := HA.out.2.2; have := HZ.out.2.2.2; omega⟩), hHeld.out.size⟩
 have K0 : Hid (FL w r s n p c L P Z w8.heap.size pm cm M 0 0 none 0 [] w8) := Lib.hid (by
  have hf := HZ.out.1.keep hHeld.out
  exact ⟨hf.fb, hf.rb, kept_row HZ.out.2.1 hHeld.out (by simp), hms, World.ownsRow_nil _ _ _ _, ⟨HZ.out.2.2.1, by have := HZ.out.2.2.2; omega, Nat.le_refl _⟩, hf.tb⟩)
 obtain ⟨b0, b1, b2, b3, b4, b5, b6, b7, b8, b9⟩ := p_facts K0.out.fb.pb
 have HMS := Lib.hid (fw_ms HE.out)
 have hML : M.length ≤ 99 := HMD.out.len
 have HR0 : Hid (r ≠ 0) := Lib.hid (by have := ck_rtF HCK.out.1; omega)
 clear hM hO hsz8 hms hsz HA HZ hHeld a0 a1 a2 a3 a4 a5 a6 a7 a8 a9 d0 d1 d2 d3
 generalize w8.heap.size = C at *
 have HPB := Lib.hid hP.bits
 have hval2 := Lib.hid hval
 clear hval
 go_wp2_with fail
 go_step3
 go_wp2_with fail
 clear b0 b1 b2 b3 b4 b5 b6 b7 b8 b9
 go_loopw [9] (fun u wr => ∃ (left loc lost : Nat) (cs : List (Int × Nat)) (pc : Option Addr) (cc : Nat), u = .int .u64 (left : Int) ∧ Hid (FwW n r L P left loc lost cs) ∧ Hid (FL w r s n p c L P Z C pm cm M loc lost pc cc cs wr)) (fun u _ => (RowKit.intOf u).toNat)
 case atStart => exact ⟨P.bits, 0, 0, [], none, 0, rfl, Lib.hid (fwI_start hP.bits), K0⟩
 case round =>
 clear K0
 obtain ⟨left, loc, lost, cs, pc, cc, rfl, I, K⟩ := hrel
 obtain ⟨w9, hw9⟩ : ∃ w9, w9 = wr := ⟨_, rfl⟩
 rw [← hw9] at K ⊢
 clear hw9
 by_cases hz : left = 0
 case pos =>
  subst hz
  obtain ⟨⟨o0, o1, o2⟩, -⟩ := row3f K.out.ob
  obtain ⟨⟨z0, z1, z2⟩, f0, f1, f2⟩ := row3f K.out.rb
  go_wp2_with fail
  rw [Exit.noGoto_ret]
  refine bodyPost_ret (res_outcome_err rfl _ _ (w.heap.size + 1 + 1) _ rfl rfl (ob_put _ _ _ K.out.rb)) rfl ?_
  have jr := ob_grown w9 (w.heap.size + 1 + 1) (.int .u64 (loc : Int)) (.int .u64 (lost : Int)) (.slice pc cs.length cc)
  have hlo := K.out.lo
  exact ⟨0, loc, lost, cs, pc, cc, rfl, ⟨HE.out.symm, fun _ => I.out.fin, fun e => absurd rfl e, I.out.hu.2⟩, (K.out.own.kept jr (Or.inr (fun e => by have := (K.out.own.lt _ e).1; omega))).mono (by omega), grown_new K.out.fb.gr jr (by omega)⟩
 have hz' : ((left : Int) != 0) = true := by simpa using hz
 have hlu := I.out.hu.1
 obtain ⟨j, hj⟩ : ∃ j, Lib.ctz 64 left = j := ⟨_, rfl⟩
 have HJ : Hid (Lst left j) := Lib.hid (by rw [← hj]; exact lst_ctz hlu hz)
 have hj64 := u64_bit hlu HJ.out.on
 have hpw := pow_word j hj64
 have HFP : Hid (∀ wx : World, Tb wx → Calls Tryd.prog 26 #[.int .u64 (left : Int)] wx fun e w' => e = .returned (.int .i64 (j : Int)) ∧ wx = w') := Lib.hid (fun wx hx => by
  rw [← hj]
  have := firstp_any left hlu wx hx
  unfold fst at this
  rwa [if_neg hz] at this)
 clear hj hz
 have HJ64 := Lib.hid hj64
 go_upto_region 8 with fail
 clear hz'
 go_wp2_with fail
 refine (HFP.out w9 K.out.tb).mono ?_
 rintro e w' ⟨rfl, rfl⟩
 go_upto_region 10 with fail
 clear hpw hj64
 go_loopw [9, 35] (fun v u wr => ∃ k : Nat, k ≤ M.length ∧ v = .int .u64 (left : Int) ∧ u = .int .i64 (k : Int) ∧ Hid (∀ i y, i < k → M[i]? = some y → y.b.testBit j = false) ∧ Hid (FL w r s n p c L P Z C pm cm M loc lost pc cc cs wr)) (fun _ u _ => M.length - (RowKit.intOf u).toNat)
 case atStart => exact ⟨0, Nat.zero_le _, rfl, rfl, Lib.hid (fun i y hi => absurd hi (by omega)), K⟩
 case round =>
 clear K
 obtain ⟨k, hk, rfl, rfl, HN, K⟩ := hrel
 obtain ⟨w9, hw9⟩ : ∃ w9, w9 = wr := ⟨_, rfl⟩
 rw [← hw9] at K ⊢
 clear hw9
 by_cases hlt : k < M.length
 case neg =>
  obtain rfl : k = M.length := by omega
  have hnl : ¬ (M.length : Int) < (M.length : Int) := by omega
  have H0 : Hid (fwH n L P j = 0) := Lib.hid (Classical.byContradiction fun hne => by
   have hb := ((HMS.out _ hne).2 j).2 ⟨rfl, HJ64.out⟩
   obtain ⟨y, hy, hx⟩ := HMD.out.all _ j hb
   obtain ⟨i, hi, he⟩ := List.mem_iff_getElem.1 hy
   have h1 := HN.out i y hi (by rw [List.getElem?_eq_getElem hi, he])
   rw [(HMD.out.b y hy).1, hx, hb] at h1
   cases h1)
  have I2 := Lib.hid (I.out.oneLost HPB.out HR0.out HJ.out H0.out)
  have hor := orU lost (b2 j) I.out.hu.2.2 (b2_u64 HJ64.out)
  have hnt : bits .andNot .u64 (left : Int) ((b2 j : Nat) : Int) = ((ntB left (b2 j) : Nat) : Int) := andNotU left (b2 j) I.out.hu.1 (b2_u64 HJ64.out)
  have hlt3 := ntB_lt I.out.hu.1 (b2_u64 HJ64.out) HJ.out.on (show (b2 j).testBit j = true from Nat.testBit_two_pow_self)
  obtain ⟨⟨o0, o1, o2⟩, f0, f1, f2⟩ := row3f K.out.ob
  have hob := heap_setCell_same w9 Z 1 _ _ (.int .u64 ((lost ||| b2 j : Nat) : Int)) K.out.ob
  have jr := grown_setCell w9 ⟨Z, 1, none⟩ (.int .u64 ((lost ||| b2 j : Nat) : Int))
  have K2 := Lib.hid (K.out.over HT.out (w1 := w9) (grown_refl _ _) K.out.own jr hob)
  clear hob jr
  go_wp2_with fail
  exact ⟨⟨ntB left (b2 j), loc, lost ||| b2 j, cs, pc, cc, rfl, I2, K2⟩, by simp only [RowKit.intOf]; omega⟩
 have hlt' : (k : Int) < (M.length : Int) := by omega
 have hk0 : (0 : Int) ≤ (k : Int) := by omega
 obtain ⟨y, hy⟩ : ∃ y, M[k]? = some y := ⟨_, List.getElem?_eq_getElem hlt⟩
 obtain ⟨-, b, off, rfl, -, hc⟩ := RdF.cells (f := mdC) (k := 2) (fun _ => rfl) (by decide) K.out.ms (by omega)
 have m0 : w9.cell? ⟨b, off + k * 2, none⟩ = some (.int .i64 y.x) := hc k y hy 0 _ rfl
 have m1 : w9.cell? ⟨b, off + k * 2 + 1, none⟩ = some (.int .u64 (y.b : Int)) := hc k y hy 1 _ rfl
 have HY := Lib.hid (And.intro hy (List.mem_of_getElem? hy))
 clear hc hy
 obtain ⟨k1, k2⟩ := tone_box w9 #[.int .i64 y.x, .int .u64 (y.b : Int)] 78
 have KB := Lib.hid (And.intro (K.out.keep k2) (And.intro k1 (And.intro (show ∀ b, (Value.slice pc cs.length cc).ownBlock = some b → b < w9.heap.size from fun b e => (K.out.own.lt b e).2) (show Z < w9.heap.size from Nat.lt_of_lt_of_le K.out.lo.2.1 K.out.lo.2.2))))
 clear k1 k2 K
 go_upto_region 12 with fail
 clear m0 m1 hlt'
 generalize w9.alloc _ = wb at *
 generalize w9.heap.size = Y at *
 obtain ⟨m0, m1⟩ := row_cells KB.out.2.1
 have hyb := HMD.out.b y HY.out.2
 have hand := andU y.b (b2 j) hyb.2.2 (b2_u64 HJ64.out)
 cases hb : y.b.testBit j with
 | false =>
  have h0 := (and_two (a := y.b) (j := j)).2 hb
  have HN2 : Hid (∀ i z, i < k + 1 → M[i]? = some z → z.b.testBit j = false) := Lib.hid (fun i z hi hz => by
   rcases Nat.lt_or_ge i k with h1 | h1
   ·exact HN.out i z h1 hz
   ·obtain rfl : i = k := by omega
    rw [HY.out.1] at hz
    cases hz
    exact hb)
  rw [show y.b &&& b2 j = 0 from h0] at hand
  have KB2 := Lib.hid KB.out.1
  clear hb h0 hyb KB HN HY
  go_wp2_with fail
  exact ⟨⟨k + 1, by omega, rfl, congrArg (Value.int .i64) (by omega), HN2, KB2⟩, by simp only [RowKit.intOf]; omega⟩
 | true =>
 have hne : ((y.b &&& b2 j : Nat) : Int) ≠ 0 := fun e => by
  have h1 : y.b &&& b2 j = 0 := by omega
  rw [(and_two (a := y.b) (j := j)).1 h1] at hb
  cases hb
 have hne' : (((y.b &&& b2 j : Nat) : Int) != 0) = true := by simpa using hne
 have hM : y.b = fwM n L P y.x := hyb.1
 have hx0 : y.x ≠ 0 := by omega
 have HH : Hid (fwH n L P j = y.x) := Lib.hid (((HMS.out _ hx0).2 j).1 (hM ▸ hb)).1
 have HX := Lib.hid (And.intro hM (And.intro hx0 hyb.2.2))
 have hlt3 := ntB_lt I.out.hu.1 hyb.2.2 HJ.out.on hb
 have hnt : bits .andNot .u64 (left : Int) (y.b : Int) = ((ntB left y.b : Nat) : Int) := andNotU left y.b I.out.hu.1 hyb.2.2
 have HPM : Hid (P.bits &&& y.b ≠ 0) := Lib.hid (fun e => by
  have h1 := congrArg (fun x => x.testBit j) e
  simp only [Nat.testBit_and, Nat.zero_testBit, hb, I.out.sub j HJ.out.on, Bool.and_self] at h1
  cases h1)
 clear hne hM hx0 hyb hb HN HY
 obtain ⟨⟨o0, o1, o2⟩, f0, f1, f2⟩ := row3f KB.out.1.ob
 obtain ⟨a0, a1, a2, a3, a4, a5, a6, a7, a8, a9⟩ := p_facts KB.out.1.fb.pb
 obtain ⟨d0, d1, d2, d3⟩ := row4T KB.out.1.fb.bx
 go_wp2_with fail
 by_cases hxr : y.x = r
 case pos =>
  have C1 : Calls Tryd.prog 27 #[.agg #[.int .u64 (loc : Int), .int .u64 (lost : Int), .slice pc cs.length cc], .agg #[.int .i64 r, .int .i64 s, .int .i64 n, .slice p L.length c], P.val, .agg #[.int .i64 y.x, .int .u64 (y.b : Int)]] wb fun e w' => e = .returned (.agg #[.int .u64 ((loc ||| (P.bits &&& y.b) : Nat) : Int), .int .u64 (lost : Int), .slice pc cs.length cc]) ∧ wb.grownBy w' none := by
   rw [hxr]
   exact fwh_loc loc lost I.out.hu.2.1 pc cs.length cc r s n p c L P hP y.b HX.out.2.2 wb
  have I2 : Hid (FwW n r L P (ntB left y.b) (loc ||| (P.bits &&& y.b)) lost cs) := Lib.hid (by
   have := I.out.allLoc HMS.out HPB.out HR0.out
   rw [HX.out.1, hxr]
   exact this)
  refine C1.mono ?_
  clear C1 hxr
  rintro e w10 ⟨rfl, hg⟩
  have hg2 := grown_none hg (Value.slice pc cs.length cc).ownBlock
  have K3 := Lib.hid (KB.out.1.put HT.out hg2 (KB.out.1.keep hg).own (loc ||| (P.bits &&& y.b)) lost)
  have hmb := kept_row (kept_row KB.out.2.1 hg2 (fun e => by have := KB.out.2.2.1 _ e.symm; omega)) (ob_grown w10 Z (.int .u64 ((loc ||| (P.bits &&& y.b) : Nat) : Int)) (.int .u64 (lost : Int)) (.slice pc cs.length cc)) (fun e => by have := Option.some.inj e; have := KB.out.2.2.2; omega)
  have hob := (KB.out.1.keep hg).ob
  clear o0 o1 o2 f0 f1 f2 a0 a1 a2 a3 a4 a5 a6 a7 a8 a9 d0 d1 d2 d3 m0 m1 KB hg hg2
  obtain ⟨⟨o0, o1, o2⟩, f0, f1, f2⟩ := row3f hob
  clear hob
  go_upto_region 14 with fail
  clear o0 o1 o2 f0 f1 f2
  generalize ((w10.setCell _ _).setCell _ _).setCell _ _ = w11 at *
  obtain ⟨m0, m1⟩ := row_cells hmb
  clear hmb
  go_wp2_with fail
  exact ⟨⟨ntB left y.b, loc ||| (P.bits &&& y.b), lost, cs, pc, cc, rfl, I2, K3⟩, by simp only [RowKit.intOf]; omega⟩
 have hne0 : fwH n L P j ≠ 0 := by rw [HH.out]; exact HX.out.2.1
 have hner : fwH n L P j ≠ r := by rw [HH.out]; exact hxr
 have hsame := I.out.same HMS.out HJ.out hne0 hner
 rw [HH.out, ← HX.out.1] at hsame
 by_cases ht : P.ttl = 0
 case pos =>
  have C1 := fwh_lost loc lost I.out.hu.2.2 pc cs.length cc r s n p c L P hP ht y.x hxr y.b HX.out.2.2 wb
  have I2 : Hid (FwW n r L P (ntB left y.b) loc (lost ||| (P.bits &&& y.b)) cs) := Lib.hid (by
   have I3 := I.out
   unfold FwW at I3 ⊢
   rw [decide_eq_true ht] at I3 ⊢
   have := I3.allLost HMS.out HPB.out HX.out.2.1 hxr
   rw [← HX.out.1, ← hsame] at this
   exact this)
  clear hsame hne0 hner ht
  refine C1.mono ?_
  clear C1 hxr
  rintro e w10 ⟨rfl, hg⟩
  have hg2 := grown_none hg (Value.slice pc cs.length cc).ownBlock
  have K3 := Lib.hid (KB.out.1.put HT.out hg2 (KB.out.1.keep hg).own loc (lost ||| (P.bits &&& y.b)))
  have hmb := kept_row (kept_row KB.out.2.1 hg2 (fun e => by have := KB.out.2.2.1 _ e.symm; omega)) (ob_grown w10 Z (.int .u64 (loc : Int)) (.int .u64 ((lost ||| (P.bits &&& y.b) : Nat) : Int)) (.slice pc cs.length cc)) (fun e => by have := Option.some.inj e; have := KB.out.2.2.2; omega)
  have hob := (KB.out.1.keep hg).ob
  clear o0 o1 o2 f0 f1 f2 a0 a1 a2 a3 a4 a5 a6 a7 a8 a9 d0 d1 d2 d3 m0 m1 KB hg hg2
  obtain ⟨⟨o0, o1, o2⟩, f0, f1, f2⟩ := row3f hob
  clear hob
  go_upto_region 14 with fail
  clear o0 o1 o2 f0 f1 f2
  generalize ((w10.setCell _ _).setCell _ _).setCell _ _ = w11 at *
  obtain ⟨m0, m1⟩ := row_cells hmb
  clear hmb
  go_wp2_with fail
  exact ⟨⟨ntB left y.b, loc, lost ||| (P.bits &&& y.b), cs, pc, cc, rfl, I2, K3⟩, by simp only [RowKit.intOf]; omega⟩
 have C1 := fwh_copy loc lost C pc cc cs (I.out.len HMS.out HPB.out) r s n p c L P hP HCK.out.2.1 ht y.x hxr y.b HX.out.2.2 HPM.out wb KB.out.1.lo.2.2 KB.out.1.own
 obtain ⟨cs2, hcs2⟩ : ∃ cs2, cs ++ [(y.x, P.bits &&& y.b)] = cs2 := ⟨_, rfl⟩
 have I2 : Hid (FwW n r L P (ntB left y.b) loc lost cs2) := Lib.hid (by
  have I3 := I.out
  unfold FwW at I3 ⊢
  rw [decide_eq_false ht] at I3 ⊢
  have := I3.copy HMS.out HPB.out HJ.out hne0 hner
  rw [HH.out, ← HX.out.1, ← hsame, hcs2] at this
  exact this)
 rw [hcs2] at C1
 clear hsame hne0 hner ht hcs2
 refine C1.mono ?_
 clear C1 hxr
 rintro e w10 ⟨p2, c2, rfl, hown, hg⟩
 have K3 := Lib.hid (KB.out.1.put HT.out hg hown loc lost)
 have hmb := kept_row (kept_row KB.out.2.1 hg (fun e => by have := KB.out.2.2.1 _ e.symm; omega)) (ob_grown w10 Z (.int .u64 (loc : Int)) (.int .u64 (lost : Int)) (.slice p2 cs2.length c2)) (fun e => by have := Option.some.inj e; have := KB.out.2.2.2; omega)
 have hob := kept_row KB.out.1.ob hg (fun e => by have := (KB.out.1.own.lt _ e.symm).1; have := KB.out.1.lo.2.1; omega)
 clear o0 o1 o2 f0 f1 f2 a0 a1 a2 a3 a4 a5 a6 a7 a8 a9 d0 d1 d2 d3 m0 m1 KB hg hown
 obtain ⟨⟨o0, o1, o2⟩, f0, f1, f2⟩ := row3f hob
 clear hob
 go_upto_region 14 with fail
 clear o0 o1 o2 f0 f1 f2
 generalize ((w10.setCell _ _).setCell _ _).setCell _ _ = w11 at *
 obtain ⟨m0, m1⟩ := row_cells hmb
 clear hmb
 go_wp2_with fail
 exact ⟨⟨ntB left y.b, loc, lost, cs2, p2, c2, rfl, I2, K3⟩, by simp only [RowKit.intOf]; omega⟩
end Go.Proofs.YtpogblengagpaaaDoor

/- forward: the laws' example. -/
namespace Go.Proofs.YtpogblengagpaaaDoor
set_option maxRecDepth 100000
open Go.RowKit Go.Maps Bs
def fxT (p1 p2 : Option Addr) : List Rw := [⟨1, [2, 3], p1, 2⟩, ⟨2, [3], p2, 1⟩]
def fxP : Pk := ⟨1, 0, 0, 8, 4, 0, 0, 0, 35, ⟨#[]⟩⟩
theorem i64_lit {x : Int} (h : decide (-1000 ≤ x ∧ x ≤ 1000) = true) : I64 x := by
 have := of_decide_eq_true h
 unfold I64
 omega
theorem fxP_wf : fxP.Wf := ⟨i64_lit rfl, i64_lit rfl, i64_lit rfl, i64_lit rfl, i64_lit rfl, i64_lit rfl, i64_lit rfl, i64_lit rfl, by show U64 35; unfold U64; decide, by show 0 ≤ maxLen; omega⟩
theorem fx_E (p1 p2 : Option Addr) : fwE 1 0 8 (fxT p1 p2) fxP = 0 := by kernel_rfl
theorem fx_loc (p1 p2 : Option Addr) : fltB (fun j => decide (fwH 8 (fxT p1 p2) fxP j = 1)) 35 = 0 := by kernel_rfl
theorem fx_lost (p1 p2 : Option Addr) : fltB (lzB (fwH 8 (fxT p1 p2) fxP) 1 (decide (fxP.ttl = 0))) 35 = 32 := by kernel_rfl
theorem fx_cs (p1 p2 : Option Addr) : cpB (fwM 8 (fxT p1 p2) fxP) (fwH 8 (fxT p1 p2) fxP) (fltB (czB (fwH 8 (fxT p1 p2) fxP) 1 (decide (fxP.ttl = 0))) 35) = [(2, 1), (3, 2)] := by kernel_rfl
theorem fx_R {p1 p2 : Option Addr} {x : Int} {loc lost : Nat} {cs : List (Int × Nat)} (h : FwR 1 0 8 (fxT p1 p2) fxP x loc lost cs) : x = 0 ∧ loc = 0 ∧ lost = 32 ∧ cs = [(2, 1), (3, 2)] := by
 have h0 : x = 0 := h.he.trans (fx_E p1 p2)
 have D := h.ok h0
 have hu : U64 35 := by unfold U64; decide
 refine ⟨h0, ?_, ?_, D.hcs.trans (fx_cs p1 p2)⟩
 ·rw [← fx_loc p1 p2]
  exact Nat.eq_of_testBit_eq fun j => (D.hloc j).trans (fltB_bit hu (fun j => decide (fwH 8 (fxT p1 p2) fxP j = 1)) j).symm
 ·rw [← fx_lost p1 p2]
  exact Nat.eq_of_testBit_eq fun j => (D.hlost j).trans (fltB_bit hu (lzB (fwH 8 (fxT p1 p2) fxP) 1 (decide (fxP.ttl = 0))) j).symm
def SmpPost (w : World) (e : Ending) (w' : World) : Prop := ∃ p1 p2 p8 : Option Addr, e = .returned (.agg #[.int .i64 1, .int .i64 0, .int .i64 8, .slice p8 (fxT p1 p2).length 2]) ∧ RdW w' (· < w'.heap.size) p8 2 (fxT p1 p2) ∧ w.grownBy w' none
theorem tab_size : (Tryd.prog.info? 27).map (·.size) = some 4 := by kernel_rfl
theorem res_tabF {fn : Func} {p : Tmp} (h : fn.results = #[.cell p 27]) (tmps : Array Value) (w : World) (g : Nat) (xs : Array Value) (hp : tmps.getD p undef = .pointer (some ⟨g, 0, none⟩)) (hn : xs.size = 4) (hg : w.heap[g]? = some (.cells xs 27 (0, 0))) :
  (results fn tmps).run Tryd.prog w = .ok (.agg xs) w := by
 exact results_cell_row h tmps w g _ _ _ _ hp hg Tryd.underlying27 rfl (by rw [hn]; exact tab_size)
theorem fx_start (w : World) : ∀ w4, w4 = (((w.alloc (.cells #[.int .i64 1, .int .i64 0, .int .i64 8, .slice (some ⟨w.heap.size + 1 + 1 + 1, 0, none⟩) 2 2] 27)).alloc (.cells #[.int .i64 2, .int .i64 3] 3)).alloc (.cells #[.int .i64 3] 3)).alloc (.cells #[.int .i64 1, .slice (some ⟨w.heap.size + 1, 0, none⟩) 2 2, .int .i64 2, .slice (some ⟨w.heap.size + 1 + 1, 0, none⟩) 1 1] 70) →
  w4.heap[w.heap.size]? = some (.cells #[.int .i64 1, .int .i64 0, .int .i64 8, .slice (some ⟨w.heap.size + 1 + 1 + 1, 0, none⟩) 2 2] 27 (0, 0)) ∧ RdW w4 (fun b => w.heap.size < b ∧ b < w4.heap.size) (some ⟨w.heap.size + 1 + 1 + 1, 0, none⟩) 2 (fxT (some ⟨w.heap.size + 1, 0, none⟩) (some ⟨w.heap.size + 1 + 1, 0, none⟩)) ∧ w.grownBy w4 none := by
 rintro w4 rfl
 have st : ∀ (wx : World) (b : Nat) (o o2 : Obj), wx.heap[b]? = some o → (wx.alloc o2).heap[b]? = some o := fun wx b o o2 h => kept_row h (World.grownBy_alloc wx o2 none) (by simp)
 generalize hA : Obj.cells #[.int .i64 1, .int .i64 0, .int .i64 8, .slice (some ⟨w.heap.size + 1 + 1 + 1, 0, none⟩) 2 2] 27 = A
 generalize hB : Obj.cells #[.int .i64 2, .int .i64 3] 3 = B
 generalize hC : Obj.cells #[.int .i64 3] 3 = C
 generalize hD : Obj.cells #[.int .i64 1, .slice (some ⟨w.heap.size + 1, 0, none⟩) 2 2, .int .i64 2, .slice (some ⟨w.heap.size + 1 + 1, 0, none⟩) 1 1] 70 = D
 have n1 := heap_alloc_new w A
 have n2 := heap_alloc_new (w.alloc A) B
 have n3 := heap_alloc_new ((w.alloc A).alloc B) C
 have n4 := heap_alloc_new (((w.alloc A).alloc B).alloc C) D
 rw [show (w.alloc A).heap.size = w.heap.size + 1 by simp] at n2
 rw [show ((w.alloc A).alloc B).heap.size = w.heap.size + 1 + 1 by simp] at n3
 rw [show (((w.alloc A).alloc B).alloc C).heap.size = w.heap.size + 1 + 1 + 1 by simp] at n4
 have b1 := st _ _ _ D (st _ _ _ C (st _ _ _ B n1))
 have b2 := st _ _ _ D (st _ _ _ C n2)
 have b3 := st _ _ _ D n3
 have hz : ((((w.alloc A).alloc B).alloc C).alloc D).heap.size = w.heap.size + 4 := by simp
 have hg : w.grownBy ((((w.alloc A).alloc B).alloc C).alloc D) none := grown_trans (World.grownBy_alloc _ _ _) (grown_trans (World.grownBy_alloc _ _ _) (grown_trans (World.grownBy_alloc _ _ _) (World.grownBy_alloc _ _ _)))
 generalize (((w.alloc A).alloc B).alloc C).alloc D = w4 at *
 subst hA hB hC hD
 refine ⟨b1, ⟨⟨_, 2, rfl, fun _ => ⟨_, _, rfl, by omega, fun i u hi => ?_⟩⟩, fun x hx => ?_⟩, hg⟩
 ·rw [Nat.zero_add, cell_of_row _ _ _ _ _ _ n4]
  simpa [fxT, rwC] using hi
 ·unfold fxT at hx
  simp only [List.mem_cons, List.not_mem_nil, or_false] at hx
  rcases hx with rfl | rfl
  ·refine ⟨⟨_, 2, rfl, fun _ => ⟨_, _, rfl, by omega, fun i u hi => ?_⟩⟩, ⟨by show 2 ≤ 2; decide, by show 2 ≤ 9223372036854775807; decide⟩⟩
   rw [Nat.zero_add, cell_of_row _ _ _ _ _ _ b2]
   simpa [tv] using hi
  ·refine ⟨⟨_, 1, rfl, fun _ => ⟨_, _, rfl, by omega, fun i u hi => ?_⟩⟩, ⟨by show 1 ≤ 1; decide, by show 1 ≤ 9223372036854775807; decide⟩⟩
   rw [Nat.zero_add, cell_of_row _ _ _ _ _ _ b3]
   simpa [tv] using hi
set_option maxHeartbeats 3200000 in
theorem smp_any (w : World) : Calls Tryd.prog 28 #[] w fun e w' => SmpPost w e w' := by
 go_enter Tryd.func28, Tryd.ntmps28
 go_wp2_with fail
 obtain ⟨h1, h2, h3⟩ := fx_start w _ rfl
 generalize (((w.alloc _).alloc _).alloc _).alloc _ = w4 at *
 refine bodyPost_ret (res_tabF rfl _ _ w.heap.size _ rfl rfl h1) rfl ?_
 exact ⟨_, _, _, rfl, h2.mono (fun b hb => hb.2), h3⟩
theorem fx_cells {w : World} {C c : Nat} {p : Option Addr} {cs : List (Int × Nat)} (h : w.ownsRow C 43 12 (.slice p cs.length c) cs.length (cs.flatMap (cyC fxP))) (hc : cs = [(2, 1), (3, 2)]) :
  ∃ g, p = some ⟨g, 0, none⟩ ∧ w.cell? ⟨g, 0, none⟩ = some (.int .i64 2) ∧ w.cell? ⟨g, 10, none⟩ = some (.int .u64 1) ∧ w.cell? ⟨g, 12, none⟩ = some (.int .i64 3) ∧ w.cell? ⟨g, 22, none⟩ = some (.int .u64 2) ∧ w.cell? ⟨g, 18, none⟩ = some (.int .i64 3) := by
 subst hc
 rcases h.2 with ⟨-, h0⟩ | ⟨g, cap, cur, h1, -⟩
 ·simp at h0
 ·injection h1 with e1 e2 e3
  subst e1
  have hx := h.cells (g := g) rfl
  have f : ∀ j u, ([(2, 1), (3, 2)].flatMap (cyC fxP))[j]? = some u → w.cell? ⟨g, j, none⟩ = some u := fun j u hu => by
   have := hx j u hu
   rwa [add_plain, Nat.zero_add] at this
  exact ⟨g, rfl, f 0 _ rfl, f 10 _ rfl, f 12 _ rfl, f 22 _ rfl, f 18 _ rfl⟩
set_option maxHeartbeats 6400000 in
theorem awk13_any (w : World) (hT : Tb w) : Calls Tryd.prog 9 #[] w fun e w' => e = .returned (.bool true) ∧ w.grownBy w' none := by
 have HT := Lib.hid hT
 clear hT
 go_enter Tryd.func9, Tryd.ntmps9
 go_wp2_with fail
 refine (smp_any w).mono ?_
 rintro e w1 ⟨p1, p2, p8, rfl, hR, hg⟩
 have HR := Lib.hid (And.intro hR hg)
 clear hR hg
 go_wp2_with fail
 refine (fwpk_any 1 0 8 p8 2 (fxT p1 p2) fxP fxP_wf w1 HR.out.1 (by show 2 ≤ 9223372036854775807; decide) (HT.out.keep HR.out.2)).mono ?_
 rintro e w2 ⟨x, loc, lost, cs, p, c, rfl, hF, hO, hg⟩
 obtain ⟨rfl, rfl, rfl, hcs⟩ := fx_R hF
 obtain ⟨g, rfl, q0, q1, q2, q3, q4⟩ := fx_cells hO hcs
 have hl : cs.length = 2 := by rw [hcs]; rfl
 have HG := Lib.hid (grown_trans HR.out.2 hg)
 clear hF hO hg hcs HR
 rw [hl]
 clear hl
 obtain ⟨k1, k2⟩ := tone_box w2 #[.int .u64 ((0 : Nat) : Int), .int .u64 ((32 : Nat) : Int), .slice (some ⟨g, 0, none⟩) 2 c] 35
 have HB := Lib.hid (And.intro k1 k2)
 clear k1 k2
 go_upto_region 2 with fail
 replace q0 := HB.out.2.cell q0 (by simp)
 replace q1 := HB.out.2.cell q1 (by simp)
 replace q2 := HB.out.2.cell q2 (by simp)
 replace q3 := HB.out.2.cell q3 (by simp)
 replace q4 := HB.out.2.cell q4 (by simp)
 generalize w2.alloc _ = w3 at *
 obtain ⟨o0, o1, o2⟩ := row3B HB.out.1
 go_wp2_with fail
 go_ret
 exact ⟨rfl, grown_trans HG.out HB.out.2⟩
end Go.Proofs.YtpogblengagpaaaDoor

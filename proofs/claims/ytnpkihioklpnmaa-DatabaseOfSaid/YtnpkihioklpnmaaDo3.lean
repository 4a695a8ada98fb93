/- Parts of the proof, packed: ToHop. -/
import Derived.Test.YtnpkihioklpnmaaDo2
/- topology: Contains of numbers and of hops; the closures of Without. -/
namespace Go.Proofs.Ytnpkihioklpnmaa
open Go.RowKit Bs
structure Hp where
  f : Int
  t : Int
def hpC (h : Hp) : List Value := [.int .i64 h.f, .int .i64 h.t]
abbrev RdH (w : World) (q : Nat → Prop) (v : Value) (H : List Hp) : Prop := RdF w q v H.length (H.flatMap hpC)
set_option maxRecDepth 100000 in
theorem rdh_cells {w : World} {q : Nat → Prop} {p : Option Addr} {n c : Nat} {H : List Hp} (h : RdH w q (.slice p n c) H) (hn : 0 < H.length) :
    n = H.length ∧ ∃ b off, p = some ⟨b, off, none⟩ ∧ q b ∧ ∀ i x, H[i]? = some x → w.cell? ⟨b, off + i * 2, none⟩ = some (.int .i64 x.f) ∧ w.cell? ⟨b, off + i * 2 + 1, none⟩ = some (.int .i64 x.t) := by
  obtain ⟨h0, b, off, hp, hq, hc⟩ := RdF.cells (f := hpC) (k := 2) (fun _ => rfl) (by decide) h hn
  exact ⟨h0, b, off, hp, hq, fun i x hi => ⟨hc i x hi 0 _ rfl, hc i x hi 1 _ rfl⟩⟩
def isH (a b : Int) (h : Hp) : Bool := decide (h.f = a ∧ h.t = b)
def hasI (X : List Int) (x : Int) : Bool := X.any fun y => decide (y = x)
end Go.Proofs.Ytnpkihioklpnmaa

/-
  OUR OWN TEXT. Mq5, Mq6, Mq7, Mq8, one behind the other.
-/
import Derived.Test.YtgkoiojelckblaaGreatDoorMq4m
import Derived.Test.YtgkoiojelckblaaGreatDoorKbd
import Derived.Deep.CutBlock
import Derived.Deep.DeepCutAuto
namespace Go.Proofs.YtgkoiojelckblaaGreatDoor
open Go.RowKit
attribute [local go_sem ↓] Go.wp_at_zero Go.wp_at_succ

end Go.Proofs.YtgkoiojelckblaaGreatDoor

namespace Go.Proofs.YtgkoiojelckblaaGreatDoor
open Go.RowKit

theorem andP_ok {α β : Type} {x : α} {l : List Wd} {k : α → List Wd → Px β} : andP (.ok (x, l)) k = k x l := rfl
end Go.Proofs.YtgkoiojelckblaaGreatDoor

namespace Go.Proofs.YtgkoiojelckblaaGreatDoor
open Go.RowKit
attribute [local go_sem ↓] Go.wp_at_zero Go.wp_at_succ

end Go.Proofs.YtgkoiojelckblaaGreatDoor

namespace Go.Proofs.YtgkoiojelckblaaGreatDoor
open Go.RowKit
attribute [local go_sem ↓] Go.wp_at_zero Go.wp_at_succ

def csL (code : Int) (pos : Nat) (v : Value) : List Value := [.int .i64 code, .int .i64 (pos : Int), v]
theorem csL_one (code : Int) (pos : Nat) (a : Option Addr) (n c : Nat) : ∀ v ∈ csL code pos (.slice a n c), v.oneCell' = true := by
  intro v hv
  simp [csL] at hv
  rcases hv with rfl | rfl | rfl <;> rfl
theorem CO.base {w : World} {B B' : Nat} {a : Option Addr} {c : Nat} {M : List CdX} (h : CO w B a c M) (hb : B' ≤ B) : CO w B' a c M := ⟨owns_base h.row hb, fun x hx => by
  obtain ⟨la, lc, h1, h2⟩ := h.all x hx
  exact ⟨la, lc, h1, owns_base h2 hb⟩, h.pair⟩
end Go.Proofs.YtgkoiojelckblaaGreatDoor

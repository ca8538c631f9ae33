/-
  OUR OWN TEXT. The program's parser: the four commands (written by gensx17.py).
-/
import Derived.Test.YtdhpoagjmiligaaGreatDoorKas
namespace Go.Proofs.YtdhpoagjmiligaaGreatDoor
open Go.RowKit
attribute [local go_sem ↓] Go.wp_at_zero Go.wp_at_succ

/-- A command, as plain data. -/
structure Cd where
  kind : Int
  n : Int
  cls : ByteArray
  slots : List V
def cdL (x : Cd) (v : Value) : List Value := [.int .i64 x.kind, .int .i64 x.n, .string x.cls, v]
theorem own_turn {w w' : World} {base g : Nat} {e t : TypeId} {m : Nat} {v : Value} {n : Nat} {xs : List Value} {c : Array Value} (h : w.ownsRow base e m v n xs) (ht : Turned w w' g) (hb : w.heap[g]? = some (.cells c t (0, 0))) (hne : t ≠ e) : w'.ownsRow base e m v n xs :=
  owns_of_block h fun k hk => ht.block k (fun e => by
    subst e
    obtain ⟨c', hc'⟩ := own_type h hk
    exact own_far hb hc' hne)
end Go.Proofs.YtdhpoagjmiligaaGreatDoor

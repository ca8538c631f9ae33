/-
  OUR OWN TEXT. Small facts that the draws of rules ask for.
-/
import Derived.Test.YtgkoiojelckblaaGreatDoorOgm
import Derived.Test.YtgkoiojelckblaaGreatDoorKag
import Derived.Test.YtgkoiojelckblaaGreatDoorKah
namespace Go.Proofs.YtgkoiojelckblaaGreatDoor
open Go.RowKit

theorem wf_rangeA {n : Int} (h1 : -9223372036854775808 ≤ n) (h2 : n ≤ 9223372036854775807) : (Lit.int .i64 n).wf = true := by
  simp [Lit.wf, IntKind.min, IntKind.max, IntKind.signed, IntKind.bits]
  omega
theorem bytes_emptyA {s : ByteArray} (h : s.toList.isEmpty = true) : s = ⟨#[]⟩ := by
  have h1 : (s.toList == (⟨#[]⟩ : ByteArray).toList) = true := by
    have : s.toList = [] := by simpa using h
    rw [this, show (⟨#[]⟩ : ByteArray).toList = [] by decide +kernel]
    rfl
  rw [bytes_beq] at h1
  simpa using h1
theorem own_capA {w : World} {base : Nat} {e : TypeId} {m : Nat} {a : Option Addr} {n c : Nat} {xs : List Value} (h : w.ownsRow base e m (.slice a n c) n xs) : n ≤ c := by
  rcases h.2 with ⟨_, h1⟩ | ⟨g, cap, cur, hv, _, _, hn, _⟩
  · omega
  · cases hv
    exact hn
end Go.Proofs.YtgkoiojelckblaaGreatDoor

/-
  OUR OWN TEXT. Bytes that came in, read as a text.
-/
import Derived.Test.YtdhpoagjmiligaaGreatDoorRdGm
import Derived.Test.YtdhpoagjmiligaaGreatDoorKag
namespace Go.Proofs.YtdhpoagjmiligaaGreatDoor
open Go.RowKit Go.Deep

theorem cellsU8s : Tryz.prog.cellsOf 5 = 1 := by kernel_rfl
theorem wfU8s {a : Int} (h : (Lit.int .u8 a).wf = true) : 0 ≤ a ∧ a < 256 := by
  have h0 : IntKind.u8.min = 0 := rfl
  have h1 : IntKind.u8.max = 255 := rfl
  simp [Lit.wf] at h
  omega
section
variable {H : Type} {enc : TypeId × Value → H} {w : World} {base : Nat} {spare : Nat → Bool} {held : Bool}
theorem rd_text {n : Nat} {cs : List Value} {x : DataW H × List MemPlace} (h : DataW.trod enc Tryz.prog w base spare held n 22 cs = some x) : ∃ a c, ∃ l : Bs, cs = [.slice a l.length c] ∧ BysAt w a l ∧ l.length ≤ maxLen := by
  obtain ⟨a, c, vs, e, hR, _, hm, _⟩ := rd_rows (R := fun _ r (u : UInt8) => r = [.int .u8 (u.toNat : Int)]) (Ok := fun _ => True) (0 : UInt8) 22 5 5 1 Tryz.underlying22 cellsU8s (by omega) (fun n cs x h hc => by
    match cs, hc with
    | [v0], _ =>
      obtain ⟨k, e0, _, wf0⟩ := DataW.trod_int Tryz.underlying5 h
      obtain ⟨h1, h2⟩ := wfU8s wf0
      refine ⟨UInt8.ofNat k.toNat, ?_, trivial⟩
      have : (UInt8.ofNat k.toNat).toNat = k.toNat := by
        simp
        omega
      rw [e0, this, Int.toNat_of_nonneg h1]) h
  refine ⟨a, c, vs, e, fun j y hy => ?_, hm⟩
  obtain ⟨b, o, r, e1, _, _, hc, hr⟩ := hR j y hy
  have h0 := hc 0 _ (by rw [hr]; rfl)
  refine ⟨b, o, e1, ?_, ?_⟩
  · exact World.block_lt_of_cell? w ⟨b, _, none⟩ h0
  · simpa using h0
end
end Go.Proofs.YtdhpoagjmiligaaGreatDoor

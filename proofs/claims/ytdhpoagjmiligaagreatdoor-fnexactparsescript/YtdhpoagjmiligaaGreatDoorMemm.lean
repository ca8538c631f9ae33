/-
  OUR OWN TEXT. Values and facts as plain data, and what it is for them to lie in memory.
-/
import Derived.Test.YtdhpoagjmiligaaGreatDoorRows
import Derived.Test.YtdhpoagjmiligaaGreatDoorPlain
import Derived.Test.YtdhpoagjmiligaaGreatDoorOwnm
namespace Go.Proofs.YtdhpoagjmiligaaGreatDoor
open Go.RowKit

/-- A value of the language, as plain data: its kind, its number, its symbol. -/
abbrev V := Int × Int × ByteArray
def V.kind (v : V) : Int := v.1
def V.num (v : V) : Int := v.2.1
def V.sym (v : V) : ByteArray := v.2.2
theorem V.same {v u : V} (h1 : v.kind = u.kind) (h2 : v.num = u.num) (h3 : v.sym = u.sym) : v = u := Prod.ext h1 (Prod.ext h2 h3)

/-- A fact, as plain data. -/
structure F where
  tag : Int
  cls : ByteArray
  slots : List V

/-- The values of vs lie from address a on (nothing is said of the address of no values). -/
def ValsAt (w : World) (a : Option Addr) (vs : List V) : Prop :=
  ∀ (i : Nat) (v : V), vs[i]? = some v → ∃ b o, a = some ⟨b, o, none⟩ ∧ w.cell? ⟨b, o + i * 3, none⟩ = some (.int .i64 v.kind) ∧
    w.cell? ⟨b, o + i * 3 + 1, none⟩ = some (.int .i64 v.num) ∧ w.cell? ⟨b, o + i * 3 + 2, none⟩ = some (.string v.sym)

theorem cell_below {w w' : World} {p : Addr} {x : Value} (hb : Below w.heap.size w w') (h : w.cell? p = some x) : w'.cell? p = some x := by
  rw [hb.cell (p := p) ?_]
  · exact h
  · unfold World.cell? at h
    by_cases hp : p.block < w.heap.size
    · exact hp
    · rw [Array.getElem?_eq_none (by omega)] at h
      simp at h

theorem ValsAt.below {w w' : World} {a : Option Addr} {vs : List V} (h : ValsAt w a vs) (hb : Below w.heap.size w w') : ValsAt w' a vs := by
  intro i v hv
  obtain ⟨b, o, rfl, h1, h2, h3⟩ := h i v hv
  exact ⟨b, o, rfl, cell_below hb h1, cell_below hb h2, cell_below hb h3⟩

/-- A value's, a fact's cells. -/
def V.cells (v : V) : List Value := [.int .i64 v.kind, .int .i64 v.num, .string v.sym]
theorem ValsAt.own {w : World} {g : Nat} {t : TypeId} {N : Nat} {vs : List V} (h : OwnB w g t 3 N (vs.map V.cells)) : ValsAt w (some ⟨g, 0, none⟩) vs := by
  intro i v hv
  have hi : (vs.map V.cells)[i]? = some v.cells := by simp [hv]
  refine ⟨g, 0, rfl, ?_, ?_, ?_⟩
  · simpa using h.cell hi (j := 0) rfl
  · simpa using h.cell hi (j := 1) rfl
  · simpa using h.cell hi (j := 2) rfl

end Go.Proofs.YtdhpoagjmiligaaGreatDoor

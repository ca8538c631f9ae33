/-
  OUR OWN TEXT. Rules that a parse owns, as the contracts take them.
-/
import Derived.Test.YtjjjagepnnbebaaGreatDoorKbm
import Derived.Test.YtjjjagepnnbebaaGreatDoorKap
namespace Go.Proofs.YtjjjagepnnbebaaGreatDoor
open Go.RowKit

/-- A row that is owned has room for what it holds. -/
theorem owns_cap {w : World} {B t m n c : Nat} {a : Option Addr} {xs : List Value} (h : w.ownsRow B t m (.slice a n c) n xs) : n ≤ c := by
  obtain ⟨_, ⟨h1, h2⟩ | ⟨g, cap, cur, h1, h2, h3, h4, _⟩⟩ := h
  · omega
  · injection h1 with _ _ e3
    omega
theorem NRow.ptsAt {w : World} {B : Nat} {a : Option Addr} {c : Nat} {M : List (Pt × Value)} (h : NRow ptK w B a c M) : PtsAt none w a (M.map Prod.fst) :=
  RowsAt.of_owns h.row (fun _ _ => rfl) (by decide) fun x hx => by
    obtain ⟨la, lc, e, ho⟩ := h.all x hx
    have ho' : w.ownsRow B 95 6 (.slice la x.1.terms.length lc) x.1.terms.length (x.1.terms.flatMap tmC) := by rw [e] at ho; exact ho
    refine ⟨la, lc, by show ptP x.1 x.2 = _; rw [e]; rfl, ?_, owns_cap ho'⟩
    have := RowsAt.of_owns (R := Tm.R) (p := id) ho' (fun _ _ => rfl) (by decide) (fun _ _ => rfl)
    simpa using this
theorem NRow.acsAt {w : World} {B : Nat} {a : Option Addr} {c : Nat} {M : List (Ac × Value)} (h : NRow acK w B a c M) : AcsAt none w a (M.map Prod.fst) :=
  RowsAt.of_owns h.row (fun _ _ => rfl) (by decide) fun x hx => by
    obtain ⟨la, lc, e, ho⟩ := h.all x hx
    have ho' : w.ownsRow B 3 1 (.slice la x.1.args.length lc) x.1.args.length (icells x.1.args) := by rw [e] at ho; exact ho
    exact ⟨la, lc, by show acL x.1 x.2 = _; rw [e]; rfl, IntsAt.owns ho'⟩
theorem RRow.at {w : World} {B : Nat} {a : Option Addr} {c : Nat} {M : List RX} (h : RRow w B a c M) : RusAt none w a (M.map RX.ru) :=
  RowsAt.of_owns h.row (fun _ _ => rfl) (by decide) fun x hx => by
    have hx := h.all x hx
    have hp := hx.pts.ptsAt
    have ha := hx.acs.acsAt
    rw [hx.mp] at hp
    rw [hx.ma] at ha
    refine ⟨x.pa, x.pc, x.ea, x.ec, x.aa, x.ac, ?_, hp, ?_, ha, owns_cap hx.exs⟩
    · show ruL x.ru.name x.ru.sal (.slice x.pa x.MP.length x.pc) (.slice x.ea x.ru.exprs.length x.ec) (.slice x.aa x.MA.length x.ac) = _
      rw [← hx.mp, ← hx.ma, List.length_map, List.length_map]
      rfl
    · have := RowsAt.of_owns (R := Ex.R) (p := id) hx.exs (fun _ _ => rfl) (by decide) (fun _ _ => rfl)
      simpa using this
end Go.Proofs.YtjjjagepnnbebaaGreatDoor

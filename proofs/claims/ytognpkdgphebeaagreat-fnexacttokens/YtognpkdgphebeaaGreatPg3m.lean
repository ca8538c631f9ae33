/-
  OUR OWN TEXT. The program: conditions; a token that holds.
-/
import Derived.Test.YtognpkdgphebeaaGreatUb
import Derived.Test.YtognpkdgphebeaaGreatOd
import Derived.Test.YtognpkdgphebeaaGreatUa
namespace Go.Proofs.YtognpkdgphebeaaGreat
open Go.RowKit
attribute [local go_sem ↓] Go.wp_at_zero Go.wp_at_succ

/-- A node's Alpha. -/
structure NdAt (w : World) (nb : Nat) (x : Al) (a : Option Addr) (c : Nat) : Prop where
  c0 : w.cell? ⟨nb, 0, none⟩ = some (.string x.cls)
  c1 : w.cell? ⟨nb, 1, none⟩ = some (.int .i64 x.arity)
  c2 : w.cell? ⟨nb, 2, none⟩ = some (.slice a x.tests.length c)
  tt : TtsAt none w a x.tests
set_option maxHeartbeats 3200000 in
theorem nodePasses_any (nb : Nat) (x : Al) (a : Option Addr) (c : Nat) (pf : Value) (f : F) (w : World) (hN : NdAt w nb x a c) (hF : FacAt w pf f) (hl : x.tests.length ≤ 1048576) :
    Calls Tryz.prog 107 #[.pointer (some ⟨nb, 0, none⟩), pf] w fun e w' => e = .returned (.bool (passes x f)) ∧ Below w.heap.size w w' := by
  obtain ⟨c0, c1, c2, htt⟩ := hN
  obtain ⟨b, o, rfl, f0, f1, sa, sc, f2, hsv⟩ := hF
  have HC := hidP (fun w' (h : Below w.heap.size w w') => iPass_any x a c f sa sc w' (htt.below h) (hsv.below h) hl)
  have D := hidP (Below.refl w.heap.size w)
  clear htt hsv
  go_enter Tryz.func107, Tryz.ntmps107
  go_wp2_with fail
  go_region_held3 (fun w' => w'.cell? ⟨nb, 0, none⟩ = some (.string x.cls) ∧ w'.cell? ⟨nb, 1, none⟩ = some (.int .i64 x.arity) ∧ w'.cell? ⟨nb, 2, none⟩ = some (.slice a x.tests.length c) ∧ w'.cell? ⟨b, o, none⟩ = some (.int .i64 f.tag) ∧ w'.cell? ⟨b, o + 1, none⟩ = some (.string f.cls) ∧ w'.cell? ⟨b, o + 2, none⟩ = some (.slice sa f.slots.length sc) ∧ Below w.heap.size w w') ((go_split_ands; refine ⟨?_, ?_, ?_, ?_, ?_, ?_, ?_⟩ <;> first | (simp [*]; done) | exact D.out.drew | exact cell_below hb' (by assumption) | exact Below.trans (by assumption) (Below.mono hb' (Below.size (by assumption))))) (first | (go_at_call 125; refine (HC.out _ (by first | exact D.out.drew | assumption)).mono ?_; rintro e w' ⟨rfl, hb'⟩) | fail)
  rename_i hh
  have D9 := hidP hh.2.2.2.2.2.2
  clear hh
  go_wp2_with fail
  go_ret
  exact ⟨rfl, D9.out⟩
/-- A condition: what it is, and the facts of its node. -/
structure Cn where
  neg : Bool
  at_ : Nat
  node : Nat
  tests : List Jt
  alpha : Al
  facts : List F
structure CnR (w : World) (c : Cn) (ta : Option Addr) : Prop where
  tests : JtsAt w ta c.tests
  node : ∃ a n, NdAt w c.node c.alpha a n
  facts : ∃ fa fc, w.cell? ⟨c.node, 4, none⟩ = some (.slice fa c.facts.length fc) ∧ FpsAt w fa c.facts
def CnsAt (w : World) (a : Option Addr) (cs : List Cn) : Prop := ∀ (i : Nat) (c : Cn), cs[i]? = some c → ∃ b o ta tc, a = some ⟨b, o, none⟩ ∧ w.cell? ⟨b, o + i * 4, none⟩ = some (.bool c.neg) ∧ w.cell? ⟨b, o + i * 4 + 1, none⟩ = some (.int .i64 (c.at_ : Int)) ∧ w.cell? ⟨b, o + i * 4 + 2, none⟩ = some (.pointer (some ⟨c.node, 0, none⟩)) ∧ w.cell? ⟨b, o + i * 4 + 3, none⟩ = some (.slice ta c.tests.length tc) ∧ CnR w c ta
def smallC (c : Cn) : Prop := c.tests.length ≤ 1048576 ∧ c.facts.length ≤ 1048576 ∧ c.alpha.tests.length ≤ 1048576
end Go.Proofs.YtognpkdgphebeaaGreat

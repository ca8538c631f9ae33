/-
  OUR OWN TEXT. THE STATEMENT FnGarbageCardSaid: for all bytes that can be read the law returns true, and they (and the listed variable) read behind the call as before it; tied by the given tie.
-/
import Derived.Test.YtgkoiojelckblaaGreatDoorKaz
import Derived.Test.YtgkoiojelckblaaGreatDoorLawGbm
import Derived.Test.YtgkoiojelckblaaGreatDoorRowGw
import Derived.Test.YtgkoiojelckblaaGreatDoorCards
import Derived.Test.YtgkoiojelckblaaGreatDoorTie
import Derived.WalkKit
import Derived.ProofKit
import Derived.OpenShut
import Derived.ShutString
import Derived.ChangeOld
import Derived.Below
import Derived.OpenVars
import Derived.MakeChecks
import Derived.Deep.DeepHandedRow
import Derived.Lib.LaidTab
import Derived.LaidHandle
import Derived.Lay
namespace Go.Proofs.YtgkoiojelckblaaGreatDoor
open Go.ChangeShapes Go.WideShapes Go.ChangeAt Go.RowKit Go.Joins
open Go.ChangeMaps (open_string shut_string)

/-- A slice that can be read has its length within its capacity. -/
theorem rd_cap {H : Type} {enc : TypeId × Value → H} {w : World} {base : Nat} {spare : Nat → Bool} {held : Bool} {n : Nat} {a : Option Addr} {len cap : Nat} {cs : List Value} {x : DataW H × List MemPlace} (h : DataW.trod enc Tryz.prog w base spare held n 22 cs = some x) (ec : cs = [.slice a len cap]) : len ≤ cap := by
  subst ec
  rcases Go.Deep.open_slice Tryz.underlying22 h with ⟨e, _⟩ | ⟨a', len', cap', mm, k, D, Pl, e, _, hl, _⟩
  · simp only [List.cons.injEq, and_true, Value.slice.injEq] at e
    obtain ⟨rfl, rfl, rfl⟩ := e
    exact Nat.le_refl _
  · simp only [List.cons.injEq, and_true, Value.slice.injEq] at e
    obtain ⟨rfl, rfl, rfl⟩ := e
    omega

/-- An array of strings that reads as a list of texts holds these texts. -/
theorem cells_of_strs {H : Type} {enc : TypeId × Value → H} {P : Program} {w : World} {base : Nat} {sp : Nat → Bool} {held : Bool} {fuel : Nat} {t e : TypeId} {n : Nat} {cs : List Value} {zs : List Bs} {p : List MemPlace}
    (ht : P.underlying t = some (.array n e)) (he : P.underlying e = some .string) (hce : P.cellsOf e = 1) (hct : P.cellsOf t = n)
    (h : DataW.trod enc P w base sp held fuel t cs = some (.agg (zs.map fun z => .lit (.string z)), p)) : cs = zs.map fun z => Value.string (mkS z) := by
  cases fuel with
  | zero => simp [DataW.trod] at h
  | succ fuel =>
    simp only [DataW.trod, ht, hce, hct, Nat.mul_one] at h
    split at h
    · rename_i hl
      obtain ⟨xs, hm, hx⟩ := Option.map_eq_some_iff.1 h
      have hxs : xs.map (·.1) = zs.map fun z => (DataW.lit (.string z) : DataW H) := by
        have := congrArg Prod.fst hx
        simpa using this
      have hxl : xs.length = n := by simpa using Lib.mapM_length hm
      have hzl : zs.length = n := by
        have := congrArg List.length hxs
        simp at this
        omega
      apply List.ext_getElem?
      intro i
      by_cases hi : i < n
      · obtain ⟨b, hb, hf⟩ := Lib.mapM_at hm i i (by simp [hi])
        obtain ⟨s, hc, rfl, _⟩ := DataW.trod_string he hf
        have h1 : cs[i]? = some (.string s) := by
          have := congrArg (·[0]?) hc
          simpa [List.getElem?_take, List.getElem?_drop] using this
        have h2 : (xs.map (·.1))[i]? = some (DataW.lit (.string s.data.toList) : DataW H) := by simp [hb]
        rw [hxs] at h2
        simp only [List.getElem?_map, Option.map_eq_some_iff, DataW.lit.injEq, Lit.string.injEq] at h2
        obtain ⟨z', hz', hz2⟩ := h2
        have hs : s = mkS z' := by rw [hz2]; exact (mkS_bs s).symm
        simp [h1, hz', hs]
      · rw [List.getElem?_eq_none (by omega), List.getElem?_eq_none (by simp; omega)]
    · cases h

/-- An interface that reads as a value in it holds one. -/
theorem cells_of_iface {H : Type} {enc : TypeId × Value → H} {P : Program} {w : World} {base : Nat} {sp : Nat → Bool} {fuel : Nat} {t : TypeId} {ms : Array (String × Nat)} {cs : List Value} {n : String} {d : DataW H} {p : List MemPlace}
    (ht : P.underlying t = some (.interface ms)) (h : DataW.trod enc P w base sp false fuel t cs = some (.iface n d, p)) : ∃ u v, cs = [.iface u v] := by
  cases fuel with
  | zero => simp [DataW.trod] at h
  | succ fuel =>
    simp only [DataW.trod, ht] at h
    split at h <;> first | (exact ⟨_, _, rfl⟩) | (simp_all) | (cases h)
theorem twNamed : Tryz.prog.globalNamed "loop.example/s01311/impl.testWords" = some 1 := by kernel_rfl
theorem twType : (Tryz.prog.globals[1]?).map (·.type) = some 440 := by kernel_rfl
theorem erType : (Tryz.prog.globals[4]?).map (·.type) = some 109 := by kernel_rfl
theorem etNamed : Tryz.prog.globalNamed "errors.errorType" = some 0 := by kernel_rfl
theorem twCells : Tryz.prog.cellsOf 440 = 7 := by kernel_rfl
theorem twData : (Rows.laid_loop_example_s01311_impl_testWords : DataW Unit) = .agg (([] :: opTx).map fun z => .lit (.string z)) := by kernel_rfl
theorem rtFound : (Tryz.prog.cutTypes.find? (·.1 == "internal/reflectlite.rtype")).map (·.2) = some 215 := by kernel_rfl
theorem tySize : Tryz.prog.types.size = 674 - 100 := by kernel_rfl
theorem erOne : ((List.range (674 - 100)).filter fun t => Tryz.prog.rowNamed t [101, 114, 114, 111, 114]) = [109] := by kernel_rfl
theorem erHandle : typeHandle Tryz.prog 109 = .pointer (some ⟨8, 109, none⟩) := by kernel_rfl
/-- What the row's list gives. -/
theorem vars_of_laid {W : World} (h : laidMetH Tryz.prog Rows.fnGarbageRow.laid W) : VarsG W := by
  have h' : laidMet Tryz.prog laidP W ∧ handlesMet Tryz.prog laidE W := h
  obtain ⟨hp, hh⟩ := h'
  obtain ⟨ps, ⟨g0, t0, cs0, f0, p0, q0, _, _, _, _, ⟨g1, t1, cs1, f1, p1, q1, _, _, _, _, ⟨g2, t2, cs2, f2, p2, q2, _, _, _, _, ⟨g3, t3, cs3, f3, p3, q3, hg3, ht3, hv3, hd3, ⟨g4, t4, cs4, f4, p4, q4, _, _, _, _, ⟨g5, t5, cs5, f5, p5, q5, hg5, ht5, hv5, hd5, _, _⟩, _⟩, _⟩, _⟩, _⟩, _⟩, _, _⟩ := hp
  have hE : ErrAt W ∧ 4 < W.heap.size := by
    obtain rfl := Option.some.inj (errNamed.symm.trans hg3)
    obtain rfl := Option.some.inj (erType.symm.trans ht3)
    obtain ⟨u, v, e⟩ := cells_of_iface Tryz.underlying109 hd3
    have e' : cs3 = #[.iface u v] := Array.ext' e
    subst e'
    exact ⟨⟨u, v, hv3⟩, World.block_lt_of_cell? W ⟨4, 0, none⟩ ((World.var?_cell hg3 hv3 0).trans rfl)⟩
  have hT : TestsAt W 1 1 := by
    obtain rfl := Option.some.inj (twNamed.symm.trans hg5)
    obtain rfl := Option.some.inj (twType.symm.trans ht5)
    rw [twData] at hd5
    have hcs := cells_of_strs Tryz.underlying440 Tryz.underlying9 cellsS twCells hd5
    intro k hk
    have := World.var?_cell hg5 hv5 (1 + k)
    rw [this, ← Array.getElem?_toList, hcs, Nat.add_comm 1 k]
    rcases (show k = 0 ∨ k = 1 ∨ k = 2 ∨ k = 3 ∨ k = 4 ∨ k = 5 by omega) with rfl | rfl | rfl | rfl | rfl | rfl <;> rfl
  refine ⟨⟨hE.1, hT, World.block_lt_of_cell? W ⟨1, _, none⟩ (hT 0 (by omega)), hE.2⟩, ?_⟩
  · obtain ⟨name, u, ty, e1, e2, e3, e4, e5⟩ := hh _ (List.mem_singleton.2 rfl)
    have en : name = [101, 114, 114, 111, 114] := (Option.some.inj e1).symm
    subst en
    obtain rfl := Option.some.inj (rtFound.symm.trans e2)
    have hm : ty ∈ (List.range (674 - 100)).filter fun t => Tryz.prog.rowNamed t [101, 114, 114, 111, 114] := List.mem_filter.2 ⟨List.mem_range.2 (by rw [← tySize]; exact e3), e4⟩
    rw [erOne] at hm
    obtain rfl := List.mem_singleton.1 hm
    rw [erHandle] at e5
    have := World.var?_cell etNamed e5 0
    simpa [ErrT] using this
set_option maxRecDepth 100000 in
/-- What the walk gives, for every argument and every world that holds the variables. -/
theorem gb_contract (H : Type) (enc : TypeId × Value → H) (W : World) (base : Nat) (args : Array Value) (ds gs : List (DataW H)) (before : List MemPlace)
    (hval0 : ∀ (j : Nat) t v, Tryz.f3.params[j]? = some t → args[j]? = some v → Value.okWide Tryz.prog W .any base t v)
    (hW : DataW.Whole enc Tryz.prog Tryz.f3.params.toList Rows.fnGarbageSpec.vars false W args.toList ds gs before) (hL : laidMetH Tryz.prog Rows.fnGarbageRow.laid W) :
    Calls Tryz.prog 3 args W fun e W' => ∃ v, e = .returned v ∧ Rows.fnGarbageSpec.post enc Tryz.prog Tryz.f3 false true false false W args v W' := by
  have hval := hval0
  have hW' := hW
  obtain ⟨p, q, hA0, hV, rfl, hfz, hnd⟩ := hW
  have hA : DataW.TrodAll enc Tryz.prog W 0 (fun _ => true) true Tryz.f3.params.toList args.toList ds p := hA0
  rw [Tryz.params3] at hA hval
  obtain ⟨v0, vs0, d0, ds0, p0, q0, hargs, rfl, rfl, h0, r0⟩ := trodAll_cons hA
  obtain ⟨v1, vs1, d1, ds1, p1, q1, hvs1, rfl, rfl, h1, r1⟩ := trodAll_cons r0
  obtain ⟨rfl, rfl, rfl⟩ := trodAll_nil r1
  obtain rfl : args = #[v0, v1] := by cases args; simp_all
  obtain ⟨gn, gt, gcs, gfuel, gd, gp, rfl, _⟩ := trodVars_one hV
  have k0 := h0
  have k1 := h1
  have lt0 : ∀ x ∈ p0, x.block < W.heap.size := by obtain ⟨m, hm⟩ := k0; exact DataW.trod_lt m _ _ _ hm
  have lt1 : ∀ x ∈ p1, x.block < W.heap.size := by obtain ⟨m, hm⟩ := k1; exact DataW.trod_lt m _ _ _ hm
  obtain ⟨sa, sn, sc, rfl⟩ := okWide_slice Tryz.underlying22 (hval 0 22 v0 rfl rfl)
  obtain ⟨ma, mn, mc, rfl⟩ := okWide_slice Tryz.underlying22 (hval 1 22 v1 rfl rfl)
  obtain ⟨m2, hm2⟩ := h0
  obtain ⟨sa', sc', l, e4, hsv, _⟩ := rd_text hm2
  simp only [Value.cells, List.cons.injEq, and_true, Value.slice.injEq] at e4
  obtain ⟨rfl, rfl, rfl⟩ := e4
  obtain ⟨m3, hm3⟩ := h1
  obtain ⟨ma', mc', l2, e5, hmv, _⟩ := rd_text hm3
  have hcap := rd_cap hm3 rfl
  simp only [Value.cells, List.cons.injEq, and_true, Value.slice.injEq] at e5
  obtain ⟨rfl, rfl, rfl⟩ := e5
  clear hA0 hval0
  refine (law_gb l l2 _ _ _ _ W hsv hmv hcap (vars_of_laid hL)).mono fun e W' ⟨he, bel⟩ => ?_
  subst he
  exact ⟨_, rfl, _, _, _, [], _, _, hW', trodAll_mk1 (shut_bool Tryz.underlying4 _), (trodAll_cons_mk (Below.trod laidOut (by kernel_rfl) (of_decide_eq_true (by kernel_rfl)) k0 bel lt0) (trodAll_cons_mk (Below.trod laidOut (by kernel_rfl) (of_decide_eq_true (by kernel_rfl)) k1 bel lt1) trodAll_mk0)), Below.trodVars laidOut bel (by kernel_rfl) hV, bel.frame _, fun h => by cases h⟩
end Go.Proofs.YtgkoiojelckblaaGreatDoor

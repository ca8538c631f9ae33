/-
  OUR OWN TEXT. THE STATEMENT FnParsePrintCardSaid: for all bytes that can be read the law returns true, and they (and the listed variable) read behind the call as before it; tied by the given tie.
-/
import Derived.Test.YtjjjagepnnbebaaGreatDoorKaw
import Derived.Test.YtjjjagepnnbebaaGreatDoorLawPpm
import Derived.Test.YtjjjagepnnbebaaGreatDoorCards
import Derived.Test.YtjjjagepnnbebaaGreatDoorTie
import Derived.WalkKit
import Derived.ProofKit
import Derived.OpenShut
import Derived.ShutString
import Derived.ChangeOld
import Derived.Below
import Derived.OpenVars
import Derived.MakeChecks
import Derived.Deep.DeepHandedRow
import Derived.Lib.LaidTab
import Derived.LaidHandle
import Derived.Lay
namespace Go.Proofs.YtjjjagepnnbebaaGreatDoor
open Go.ChangeShapes Go.WideShapes Go.ChangeAt Go.RowKit Go.Joins
open Go.ChangeMaps (open_string shut_string)

/-- An array of strings that reads as a list of texts holds these texts. -/
theorem cells_of_strs {H : Type} {enc : TypeId × Value → H} {P : Program} {w : World} {base : Nat} {sp : Nat → Bool} {held : Bool} {fuel : Nat} {t e : TypeId} {n : Nat} {cs : List Value} {zs : List Bs} {p : List MemPlace}
    (ht : P.underlying t = some (.array n e)) (he : P.underlying e = some .string) (hce : P.cellsOf e = 1) (hct : P.cellsOf t = n)
    (h : DataW.trod enc P w base sp held fuel t cs = some (.agg (zs.map fun z => .lit (.string z)), p)) : cs = zs.map fun z => Value.string (mkS z) := by
  cases fuel with
  | zero => simp [DataW.trod] at h
  | succ fuel =>
    simp only [DataW.trod, ht, hce, hct, Nat.mul_one] at h
    split at h
    · rename_i hl
      obtain ⟨xs, hm, hx⟩ := Option.map_eq_some_iff.1 h
      have hxs : xs.map (·.1) = zs.map fun z => (DataW.lit (.string z) : DataW H) := by
        have := congrArg Prod.fst hx
        simpa using this
      have hxl : xs.length = n := by simpa using Lib.mapM_length hm
      have hzl : zs.length = n := by
        have := congrArg List.length hxs
        simp at this
        omega
      apply List.ext_getElem?
      intro i
      by_cases hi : i < n
      · obtain ⟨b, hb, hf⟩ := Lib.mapM_at hm i i (by simp [hi])
        obtain ⟨s, hc, rfl, _⟩ := DataW.trod_string he hf
        have h1 : cs[i]? = some (.string s) := by
          have := congrArg (·[0]?) hc
          simpa [List.getElem?_take, List.getElem?_drop] using this
        have h2 : (xs.map (·.1))[i]? = some (DataW.lit (.string s.data.toList) : DataW H) := by simp [hb]
        rw [hxs] at h2
        simp only [List.getElem?_map, Option.map_eq_some_iff, DataW.lit.injEq, Lit.string.injEq] at h2
        obtain ⟨z', hz', hz2⟩ := h2
        have hs : s = mkS z' := by rw [hz2]; exact (mkS_bs s).symm
        simp [h1, hz', hs]
      · rw [List.getElem?_eq_none (by omega), List.getElem?_eq_none (by simp; omega)]
    · cases h

/-- An interface that reads as a value in it holds one. -/
theorem cells_of_iface {H : Type} {enc : TypeId × Value → H} {P : Program} {w : World} {base : Nat} {sp : Nat → Bool} {fuel : Nat} {t : TypeId} {ms : Array (String × Nat)} {cs : List Value} {n : String} {d : DataW H} {p : List MemPlace}
    (ht : P.underlying t = some (.interface ms)) (h : DataW.trod enc P w base sp false fuel t cs = some (.iface n d, p)) : ∃ u v, cs = [.iface u v] := by
  cases fuel with
  | zero => simp [DataW.trod] at h
  | succ fuel =>
    simp only [DataW.trod, ht] at h
    split at h <;> first | (exact ⟨_, _, rfl⟩) | (simp_all) | (cases h)
theorem twNamed : Tryz.prog.globalNamed "loop.example/s01311/impl.testWords" = some 1 := by kernel_rfl
theorem twType : (Tryz.prog.globals[1]?).map (·.type) = some 177 := by kernel_rfl
theorem tbType : (Tryz.prog.globals[2]?).map (·.type) = some 207 := by kernel_rfl
theorem tbCells : Tryz.prog.cellsOf 207 = 20 := by kernel_rfl
theorem u64Cells : Tryz.prog.cellsOf 172 = 1 := by kernel_rfl
theorem tbData : (Rows.laid_internal_strconv_uint64pow10 : DataW Unit) = Lib.tabData .u64 Lib.pow10Tab := by kernel_rfl
theorem erType : (Tryz.prog.globals[7]?).map (·.type) = some 85 := by kernel_rfl
theorem etNamed : Tryz.prog.globalNamed "errors.errorType" = some 0 := by kernel_rfl
theorem twCells : Tryz.prog.cellsOf 177 = 7 := by kernel_rfl
theorem twData : (Rows.laid_loop_example_s01311_impl_testWords : DataW Unit) = .agg (([] :: opTx).map fun z => .lit (.string z)) := by kernel_rfl
theorem rtFound : (Tryz.prog.cutTypes.find? (·.1 == "internal/reflectlite.rtype")).map (·.2) = some 183 := by kernel_rfl
theorem tySize : Tryz.prog.types.size = 377 - 100 := by kernel_rfl
theorem erOne : ((List.range (377 - 100)).filter fun t => Tryz.prog.rowNamed t [101, 114, 114, 111, 114]) = [85] := by kernel_rfl
theorem erHandle : typeHandle Tryz.prog 85 = .pointer (some ⟨8, 85, none⟩) := by kernel_rfl
def laidP : List (String × DataW Unit) := [("math/bits.deBruijn32tab", Rows.laid_math_bits_deBruijn32tab), ("math/bits.deBruijn64tab", Rows.laid_math_bits_deBruijn64tab), ("internal/strconv.uint64pow10", Rows.laid_internal_strconv_uint64pow10), ("strconv.ErrRange", Rows.laid_strconv_ErrRange), ("strconv.ErrSyntax", Rows.laid_strconv_ErrSyntax), ("loop.example/s01311/impl.testWords", Rows.laid_loop_example_s01311_impl_testWords)]
def laidE : List (String × DataW Unit) := [("errors.errorType", Rows.laid_errors_errorType)]
/-- What the row's list gives. -/
theorem vars_of_laid {W : World} (h : laidMetH Tryz.prog Rows.fnParsePrintRow.laid W) : VarsP W := by
  have h' : laidMet Tryz.prog laidP W ∧ handlesMet Tryz.prog laidE W := h
  obtain ⟨hp, hh⟩ := h'
  obtain ⟨ps, ⟨g0, t0, cs0, f0, p0, q0, _, _, _, _, ⟨g1, t1, cs1, f1, p1, q1, _, _, _, _, ⟨g2, t2, cs2, f2, p2, q2, hg2, ht2, hv2, hd2, ⟨g3, t3, cs3, f3, p3, q3, hg3, ht3, hv3, hd3, ⟨g4, t4, cs4, f4, p4, q4, _, _, _, _, ⟨g5, t5, cs5, f5, p5, q5, hg5, ht5, hv5, hd5, _, _⟩, _⟩, _⟩, _⟩, _⟩, _⟩, _, _⟩ := hp
  have hTab : Lib.TabIs Tryz.prog W "internal/strconv.uint64pow10" .u64 Lib.pow10Tab := by
    obtain rfl := Option.some.inj (tab_named.symm.trans hg2)
    obtain rfl := Option.some.inj (tbType.symm.trans ht2)
    rw [tbData] at hd2
    unfold Lib.TabIs
    rw [hv2, ← Lib.cells_of_tab Tryz.underlying207 Tryz.underlying172 u64Cells tbCells hd2]
  have hE : ErrAt W ∧ 7 < W.heap.size := by
    obtain rfl := Option.some.inj (errNamed.symm.trans hg3)
    obtain rfl := Option.some.inj (erType.symm.trans ht3)
    obtain ⟨u, v, e⟩ := cells_of_iface Tryz.underlying85 hd3
    have e' : cs3 = #[.iface u v] := Array.ext' e
    subst e'
    exact ⟨⟨u, v, hv3⟩, World.block_lt_of_cell? W ⟨7, 0, none⟩ ((World.var?_cell hg3 hv3 0).trans rfl)⟩
  have hT : TestsAt W 1 1 := by
    obtain rfl := Option.some.inj (twNamed.symm.trans hg5)
    obtain rfl := Option.some.inj (twType.symm.trans ht5)
    rw [twData] at hd5
    have hcs := cells_of_strs Tryz.underlying177 Tryz.underlying9 cellsS twCells hd5
    intro k hk
    have := World.var?_cell hg5 hv5 (1 + k)
    rw [this, ← Array.getElem?_toList, hcs, Nat.add_comm 1 k]
    rcases (show k = 0 ∨ k = 1 ∨ k = 2 ∨ k = 3 ∨ k = 4 ∨ k = 5 by omega) with rfl | rfl | rfl | rfl | rfl | rfl <;> rfl
  refine ⟨⟨hE.1, hT, World.block_lt_of_cell? W ⟨1, _, none⟩ (hT 0 (by omega)), hE.2⟩, ?_, hTab, hT⟩
  · obtain ⟨name, u, ty, e1, e2, e3, e4, e5⟩ := hh _ (List.mem_singleton.2 rfl)
    have en : name = [101, 114, 114, 111, 114] := (Option.some.inj e1).symm
    subst en
    obtain rfl := Option.some.inj (rtFound.symm.trans e2)
    have hm : ty ∈ (List.range (377 - 100)).filter fun t => Tryz.prog.rowNamed t [101, 114, 114, 111, 114] := List.mem_filter.2 ⟨List.mem_range.2 (by rw [← tySize]; exact e3), e4⟩
    rw [erOne] at hm
    obtain rfl := List.mem_singleton.1 hm
    rw [erHandle] at e5
    have := World.var?_cell etNamed e5 0
    simpa [ErrT] using this
set_option maxRecDepth 100000 in
/-- What the walk gives, for every argument and every world that holds the variables. -/
theorem pp_contract (H : Type) (enc : TypeId × Value → H) (W : World) (base : Nat) (args : Array Value) (ds gs : List (DataW H)) (before : List MemPlace)
    (hval0 : ∀ (j : Nat) t v, Tryz.f3.params[j]? = some t → args[j]? = some v → Value.okWide Tryz.prog W .any base t v)
    (hW : DataW.Whole enc Tryz.prog Tryz.f3.params.toList Rows.fnParsePrintSpec.vars false W args.toList ds gs before) (hL : laidMetH Tryz.prog Rows.fnParsePrintRow.laid W) :
    Calls Tryz.prog 3 args W fun e W' => ∃ v, e = .returned v ∧ Rows.fnParsePrintSpec.post enc Tryz.prog Tryz.f3 false true false false W args v W' := by
  have hval := hval0
  have hW' := hW
  obtain ⟨p, q, hA0, hV, rfl, hfz, hnd⟩ := hW
  have hA : DataW.TrodAll enc Tryz.prog W 0 (fun _ => true) true Tryz.f3.params.toList args.toList ds p := hA0
  rw [Tryz.params3] at hA hval
  obtain ⟨v0, vs0, d0, ds0, p0, q0, hargs, rfl, rfl, h0, r0⟩ := trodAll_cons hA
  obtain ⟨rfl, rfl, rfl⟩ := trodAll_nil r0
  obtain rfl : args = #[v0] := by cases args; simp_all
  obtain ⟨gn, gt, gcs, gfuel, gd, gp, rfl, _⟩ := trodVars_one hV
  have k0 := h0
  have lt0 : ∀ x ∈ p0, x.block < W.heap.size := by obtain ⟨m, hm⟩ := k0; exact DataW.trod_lt m _ _ _ hm
  obtain ⟨sa, sn, sc, rfl⟩ := okWide_slice Tryz.underlying22 (hval 0 22 v0 rfl rfl)
  obtain ⟨m2, hm2⟩ := h0
  obtain ⟨sa', sc', l, e4, hsv, _⟩ := rd_text hm2
  simp only [Value.cells, List.cons.injEq, and_true, Value.slice.injEq] at e4
  obtain ⟨rfl, rfl, rfl⟩ := e4
  clear hA0 hval0
  refine (law_pp l _ _ W hsv (vars_of_laid hL)).mono fun e W' ⟨he, bel⟩ => ?_
  subst he
  exact ⟨_, rfl, _, _, _, [], _, _, hW', trodAll_mk1 (shut_bool Tryz.underlying4 _), (trodAll_cons_mk (Below.trod laidOut (by kernel_rfl) (of_decide_eq_true (by kernel_rfl)) k0 bel lt0) trodAll_mk0), Below.trodVars laidOut bel (by kernel_rfl) hV, bel.frame _, fun h => by cases h⟩

/-- A block's cells put in. -/
def setVar (g : Nat) (cs : Array Value) (h : Array Obj) : Array Obj := h.modify g fun
  | .cells _ t frozen => .cells cs t frozen
  | o => o
set_option maxRecDepth 100000 in
set_option maxHeartbeats 6400000 in
theorem pp_lifted (os : Os) (started : os.Started) (H : Type) (enc : TypeId × Value → H) (F : Stop.Interp) :
    ReturnsInHanded {} Tryz.checked os 3 .any ((OpenSpec.ofChange Rows.fnParsePrintSpec).preRow enc Tryz.prog Tryz.f3 Rows.fnParsePrintRow.domain false Rows.fnParsePrintRow.laid) (((OpenSpec.ofChange Rows.fnParsePrintSpec).at F).post enc Tryz.prog Tryz.f3 false true false false) := by
  obtain ⟨W0, hW0⟩ : ∃ W0 : World, W0 = World.layVars Tryz.prog { World.holding Tryz.prog os ⟨#[], #[], []⟩ with heap := setVar 0 #[.iface 183 (.agg #[.pointer (some ⟨8, 85, none⟩)])] (World.holding Tryz.prog os ⟨#[], #[], []⟩).heap } laidP := ⟨_, rfl⟩
  have hx : DataW.whole enc Tryz.prog (W0.forCall (fun _ _ => 0) ⟨#[], #[.slice none 0 0], []⟩).memory Tryz.f3.params.toList Rows.fnParsePrintSpec.vars false #[Value.slice none 0 0].toList 8 = some ([.nil], [Rows.laid_loop_example_s01311_impl_testWords], MemPlace.row ⟨1, 0, none⟩ 7) := by
    subst hW0
    kernel_rfl
  have hL : laidMetH Tryz.prog Rows.fnParsePrintRow.laid (W0.forCall (fun _ _ => 0) ⟨#[], #[.slice none 0 0], []⟩).memory := by
    subst hW0
    exact laidMetH_of_parts (laidMet_of_run' 8 (by kernel_rfl) (by kernel_rfl)) (by kernel_rfl)
  refine returnsInHanded_of_row (C := Tryz.checked) (s := OpenSpec.ofChange Rows.fnParsePrintSpec) ownK started (by kernel_rfl) Tryz.func3
    (witness_row_at (enc := enc) (C := Tryz.checked) false W0 #[.slice none 0 0] (by subst hW0; rfl) (by subst hW0; kernel_rfl) (by subst hW0; kernel_rfl) (by subst hW0; kernel_rfl)
      (OpenSpec.preRow_of_cond 8 hx (by kernel_rfl) (fun k hk => by cases hk) (by subst hW0; kernel_rfl) hL)) ?_
  intro W base args ds gs before hval hW _ _ _ hL _ _
  exact pp_contract H enc W base args ds gs before hval hW hL

theorem fnParsePrint_row : Rows.FnParsePrintSaid :=
  OpenClaim.holds_of_cond 3 Tryz.f3 rfl rfl rfl rfl rfl rfl rfl ⟨rfl, rfl, rfl, rfl, rfl⟩ rfl rfl rfl rfl rfl (by kernel_rfl) Tryz.func3 (by kernel_rfl)
    (of_decide_eq_true (by kernel_rfl)) (by unfold Func.isWrapper; first | (rw [if_pos (by decide +kernel)]; kernel_rfl) | (rw [if_neg (by decide +kernel)]; exact ⟨rfl, rfl⟩))
    (fun os started H enc _ F => by rw [OpenClaim.pre_eq_preRow]; exact pp_lifted os started H enc F)

theorem pp_plain (f : FuncId) (fn : Func) (hf : Tryz.pinned.checked.prog.funcNamed "loop.example/s01311/laws.FnParsePrint" = some f) (hfn : Tryz.pinned.checked.prog.funcs[f]? = some fn) :
    true = Tryz.pinned.checked.prog.looks [] ∧ ∀ (j : Nat) t, fn.params[j]? = some t → Tryz.pinned.checked.prog.wantsStandIn t = false := by
  obtain rfl : f = 3 := Option.some.inj ((show Tryz.prog.funcNamed "loop.example/s01311/laws.FnParsePrint" = some 3 by kernel_rfl).symm.trans hf) |>.symm
  obtain rfl : fn = Tryz.f3 := (Option.some.inj (Tryz.func3.symm.trans hfn)).symm
  refine ⟨by kernel_rfl, fun j t ht => ?_⟩
  rw [Tryz.params3] at ht
  obtain rfl : t = 22 := by simpa using Array.mem_of_getElem? ht
  exact (show Tryz.prog.wantsStandIn 22 = false by kernel_rfl)

theorem fnParsePrint_holds : Rows.FnParsePrintCardSaid :=
  Claim7.holds_tied_plain_at .later [] _ _ _ _ fnParsePrint_row (fun _ h => by cases h) (by kernel_rfl) (fun _ h => by cases h) fnParsePrint_row_tie rfl ⟨rfl, rfl⟩ (by kernel_rfl) rfl pp_plain (by kernel_rfl)
#print axioms fnParsePrint_holds
end Go.Proofs.YtjjjagepnnbebaaGreatDoor

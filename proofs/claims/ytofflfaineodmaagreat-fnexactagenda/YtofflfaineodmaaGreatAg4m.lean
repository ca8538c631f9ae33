/-
  OUR OWN TEXT. The program: heap.up and heap.down over the agenda.
-/
import Derived.Test.YtofflfaineodmaaGreatZw
namespace Go.Proofs.YtofflfaineodmaaGreat
open Go.RowKit
attribute [local go_sem ↓] Go.wp_at_zero Go.wp_at_succ

def gn (L : List EnX) (k : Nat) : EnX := (L[k]?).getD (⟨0, []⟩, .nilIface, .nilIface)
def fn (L : List EnX) (k : Nat) : In := (gn L k).1
theorem gn_at {L : List EnX} {k : Nat} {x : EnX} (h : L[k]? = some x) : gn L k = x := by unfold gn; rw [h]; rfl
theorem fn_at {L : List EnX} {k : Nat} {x : EnX} (h : L[k]? = some x) : fn L k = x.1 := by unfold fn; rw [gn_at h]
theorem upto_gn (L : List EnX) : upto (gn L) L.length = L := by
  apply List.ext_getElem?
  intro k
  unfold upto
  by_cases hk : k < L.length
  · rw [List.getElem?_map, List.getElem?_range hk, List.getElem?_eq_getElem hk]
    simp [gn_at (List.getElem?_eq_getElem hk)]
  · rw [List.getElem?_eq_none (by simp; omega), List.getElem?_eq_none (by omega)]
theorem gn_swap {L : List EnX} {i j : Nat} {x y : EnX} (hi : L[i]? = some x) (hj : L[j]? = some y) : gn (swapL L i j x y) = swapF (gn L) i j := by
  have il : i < L.length := (List.getElem?_eq_some_iff.1 hi).1
  have jl : j < L.length := (List.getElem?_eq_some_iff.1 hj).1
  funext k
  unfold swapF
  by_cases e : k = i
  · rw [if_pos e, gn_at hj]
    subst e
    by_cases e2 : k = j
    · subst e2
      rw [hi] at hj
      injection hj with hj
      subst hj
      exact gn_at (by unfold swapL; rw [List.getElem?_set_self (by simpa using il)])
    · exact gn_at (by unfold swapL; rw [List.getElem?_set_ne (Ne.symm e2), List.getElem?_set_self il])
  · rw [if_neg e]
    by_cases e2 : k = j
    · rw [if_pos e2, gn_at hi]
      subst e2
      exact gn_at (by unfold swapL; rw [List.getElem?_set_self (by simpa using jl)])
    · rw [if_neg e2]
      unfold gn swapL
      rw [List.getElem?_set_ne (Ne.symm e2), List.getElem?_set_ne (Ne.symm e)]
theorem fn_swap {L : List EnX} {i j : Nat} {x y : EnX} (hi : L[i]? = some x) (hj : L[j]? = some y) : fn (swapL L i j x y) = swapF (fn L) i j := by
  funext k
  unfold fn
  rw [gn_swap hi hj]
  unfold swapF
  split
  · rfl
  · split <;> rfl
theorem swapL_perm {L : List EnX} {i j : Nat} {x y : EnX} (hi : L[i]? = some x) (hj : L[j]? = some y) : (swapL L i j x y).Perm L := by
  have il : i < L.length := (List.getElem?_eq_some_iff.1 hi).1
  have jl : j < L.length := (List.getElem?_eq_some_iff.1 hj).1
  have h := swap_map (gn L) il jl
  rw [← gn_swap hi hj] at h
  have e1 := upto_gn (swapL L i j x y)
  rw [swapL_len] at e1
  have e2 := upto_gn L
  unfold upto at e1 e2
  rw [e1, e2] at h
  exact h
/-- The agenda as heap.Interface. -/
def agI (lb : Nat) : Value := .iface 64 (.pointer (some ⟨lb, 0, none⟩))
theorem methLess0 (lb : Nat) (w : World) : Sem.run Tryz.prog (method 316 64 (.pointer (some ⟨lb, 0, none⟩)) "Less") w = Sem.run Tryz.prog ((do let v ← loadVar 62 ⟨lb, 0, none⟩; pure (158, v)) : Sem (FuncId × Value)) w := by kernel_rfl
theorem methLess {lb n c : Nat} {a : Option Addr} {w : World} (h : w.heap[lb]? = some (.cells #[.slice a n c] 62 (0, 0))) : Sem.run Tryz.prog (method 316 64 (.pointer (some ⟨lb, 0, none⟩)) "Less") w = .ok (158, .slice a n c) w := by
  have h0 : w.cell? ⟨lb, 0, none⟩ = some (.slice a n c) := by simp [World.cell?, h]
  rw [methLess0]
  simp [go_sem, h0]
theorem methSwap0 (lb : Nat) (w : World) : Sem.run Tryz.prog (method 316 64 (.pointer (some ⟨lb, 0, none⟩)) "Swap") w = Sem.run Tryz.prog ((do let v ← loadVar 62 ⟨lb, 0, none⟩; pure (159, v)) : Sem (FuncId × Value)) w := by kernel_rfl
theorem methSwap {lb n c : Nat} {a : Option Addr} {w : World} (h : w.heap[lb]? = some (.cells #[.slice a n c] 62 (0, 0))) : Sem.run Tryz.prog (method 316 64 (.pointer (some ⟨lb, 0, none⟩)) "Swap") w = .ok (159, .slice a n c) w := by
  have h0 : w.cell? ⟨lb, 0, none⟩ = some (.slice a n c) := by simp [World.cell?, h]
  rw [methSwap0]
  simp [go_sem, h0]
theorem methLen0 (lb : Nat) (w : World) : Sem.run Tryz.prog (method 316 64 (.pointer (some ⟨lb, 0, none⟩)) "Len") w = Sem.run Tryz.prog ((do let v ← loadVar 62 ⟨lb, 0, none⟩; pure (27, v)) : Sem (FuncId × Value)) w := by kernel_rfl
theorem methLen {lb n c : Nat} {a : Option Addr} {w : World} (h : w.heap[lb]? = some (.cells #[.slice a n c] 62 (0, 0))) : Sem.run Tryz.prog (method 316 64 (.pointer (some ⟨lb, 0, none⟩)) "Len") w = .ok (27, .slice a n c) w := by
  have h0 : w.cell? ⟨lb, 0, none⟩ = some (.slice a n c) := by simp [World.cell?, h]
  rw [methLen0]
  simp [go_sem, h0]
theorem methPush (lb : Nat) (w : World) : Sem.run Tryz.prog (method 316 64 (.pointer (some ⟨lb, 0, none⟩)) "Push") w = .ok (167, .pointer (some ⟨lb, 0, none⟩)) w := by kernel_rfl
theorem methPop (lb : Nat) (w : World) : Sem.run Tryz.prog (method 316 64 (.pointer (some ⟨lb, 0, none⟩)) "Pop") w = .ok (166, .pointer (some ⟨lb, 0, none⟩)) w := by kernel_rfl
theorem box_mko {rs : List Ru} {w w' : World} {base lb n c c' : Nat} {a : Option Addr} {L : List EnX} (h : AgO rs w base a c L) (hn : L.length = n) (hbx : w.heap[lb]? = some (.cells #[.slice a n c'] 62 (0, 0))) (hm : MkO (Value.slice a n c).ownBlock w w') : w'.heap[lb]? = some (.cells #[.slice a n c'] 62 (0, 0)) :=
  (hm.block lb (lt_of_block' hbx) (fun e => by subst hn; obtain ⟨_, h1⟩ := own_type h.row e; exact own_far h1 hbx (by decide))).trans hbx
set_option maxRecDepth 100000 in
set_option maxHeartbeats 3200000 in
theorem up_any (rs : List Ru) (L0 : List EnX) (a : Option Addr) (c base lb j0 : Nat) (w : World) (h : AgO rs w base a c L0) (hbx : w.heap[lb]? = some (.cells #[.slice a L0.length c] 62 (0, 0))) (hu : UpF (befI rs) (fn L0) L0.length j0) (hj : j0 < L0.length) (hl : L0.length ≤ 1048576) :
    Calls Tryz.prog 49 #[agI lb, .int .i64 (j0 : Int)] w fun e w' => (∃ v, e = .returned v) ∧ ∃ L, AgO rs w' base a c L ∧ L.Perm L0 ∧ HeapF (befI rs) (fn L) L0.length ∧ MkO (Value.slice a L0.length c).ownBlock w w' := by
  unfold agI
  have HS := hidA (bef_strict rs)
  have H0 := hidA h
  have HU := hidA hu
  have HBX := hidA hbx
  clear h hu hbx
  go_enter Tryz.func49, Tryz.ntmps49
  go_wp2_with fail
  go_loopw [1] (fun jv wr => ∃ (j : Nat) (L : List EnX), jv = .int .i64 (j : Int) ∧ j < L0.length ∧ L.Perm L0 ∧ AgO rs wr base a c L ∧ UpF (befI rs) (fn L) L0.length j ∧ MkO (Value.slice a L0.length c).ownBlock w wr) (fun jv _ => (intOf jv).toNat)
  case atStart => exact ⟨j0, L0, rfl, hj, List.Perm.refl _, H0.out, HU.out, MkO.refl _ _⟩
  case round =>
    obtain ⟨j, L, rfl, hjl, hp, hA, hU, hm⟩ := hrel
    have HP := hidA hp
    have AA := hidA hA
    have UU := hidA hU
    have MM := hidA hm
    have hbr := box_mko H0.out rfl HBX.out hm
    have hLl := hp.length_eq
    clear hp hA hU hm
    rcases Nat.eq_zero_or_pos j with rfl | hpos
    · go_wp2_with fail
      go_end0
      exact ⟨⟨_, rfl⟩, L, AA.out, HP.out, UU.out.done0, MM.out⟩
    · obtain ⟨p, hpp⟩ : ∃ p, p = par j := ⟨_, rfl⟩
      have hpj : p < j := by rw [hpp]; exact par_lt hpos
      have hdv : ((j : Int) - 1) / 2 = (p : Int) := by rw [hpp]; unfold par; omega
      have hne : ((p : Int) == (j : Int)) = false := by simp; omega
      obtain ⟨x, hx⟩ : ∃ x, L[p]? = some x := ⟨L[p]'(by omega), by simp⟩
      obtain ⟨y, hy⟩ : ∃ y, L[j]? = some y := ⟨L[j]'(by omega), by simp⟩
      have hmL := methLess hbr
      have HL := hidA (agLess_any rs L a c base j p y x wr AA.out hy hx)
      rw [hLl] at HL
      have HX := hidA hx
      have HY := hidA hy
      have HPP := hidA hpp
      have HBR := hidA hbr
      cases hb : befI rs y.1 x.1
      · rw [hb] at HL
        have HD := hidA (UU.out.done (by rw [← hpp, fn_at hy, fn_at hx]; exact hb))
        clear hx hy hb hpp hLl hbr
        go_wp2_with fail
        refine HL.out.mono ?_
        rintro e w1 ⟨rfl, hb1⟩
        have M1 := hidA (MM.out.trans (MkO.of_below hb1))
        have A1 := hidA (AA.out.bel hb1)
        clear hb1 HL hmL
        go_wp2_with fail
        go_end0
        exact ⟨⟨_, rfl⟩, L, A1.out, HP.out, HD.out, M1.out⟩
      · rw [hb] at HL
        have HD := hidA (UU.out.step HS.out hjl hpos (by rw [← hpp, fn_at hy, fn_at hx]; exact hb))
        clear hx hy hb hpp hbr
        go_wp2_with fail
        refine HL.out.mono ?_
        rintro e w1 ⟨rfl, hb1⟩
        have M1 := hidA (MM.out.trans (MkO.of_below hb1))
        have A1 := hidA (AA.out.bel hb1)
        have hmS := methSwap ((hb1.block _ (lt_of_block' HBR.out)).trans HBR.out)
        have HSW := hidA (agSwap_any rs L a c base p j x y w1 A1.out HX.out HY.out)
        rw [hLl] at HSW
        clear hb1 HL hmL hLl
        go_wp2_with fail
        refine HSW.out.mono ?_
        rintro e w2 ⟨⟨v2, rfl⟩, hA2, hm2⟩
        have M2 := hidA (M1.out.trans hm2)
        have A2 := hidA hA2
        have P2 := hidA ((swapL_perm HX.out HY.out).trans HP.out)
        have U2 := hidA (show UpF (befI rs) (fn (swapL L p j x y)) L0.length p by rw [fn_swap HX.out HY.out, HPP.out]; rw [HPP.out] at *; exact HD.out)
        clear hA2 hm2 HSW hmS
        go_wp2_with fail
        go_roundw
        case rel => exact ⟨p, swapL L p j x y, rfl, by omega, P2.out, A2.out, U2.out, M2.out⟩
        case measure => (simp [intOf]; omega)
end Go.Proofs.YtofflfaineodmaaGreat

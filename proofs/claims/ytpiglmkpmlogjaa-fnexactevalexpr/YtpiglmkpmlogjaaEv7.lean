/-
  OUR OWN TEXT. EvalExpr: the program's side, whole.
-/
import Derived.Test.YtpiglmkpmlogjaaEv6
import Derived.Test.YtpiglmkpmlogjaaBlk
namespace Go.Proofs.Ytpiglmkpmlogjaa
open Go.RowKit
attribute [local go_sem ↓] Go.wp_at_zero Go.wp_at_succ

theorem table_append (bs : List Bd) : ∀ (l m : List Ex) (tab : List Ev), table bs (l ++ m) tab = table bs m (table bs l tab)
  | [], _, _ => rfl
  | e :: r, m, tab => table_append bs r m (tab ++ [ev1 bs tab e])
theorem table_len (bs : List Bd) : ∀ (l : List Ex) (tab : List Ev), (table bs l tab).length = tab.length + l.length
  | [], _ => rfl
  | e :: r, tab => by
    show (table bs r (tab ++ [ev1 bs tab e])).length = _
    rw [table_len bs r]
    simp
    omega
theorem table_snoc {bs : List Bd} {es : List Ex} {k : Nat} {e : Ex} (h : es[k]? = some e) : table bs (es.take (k + 1)) [] = table bs (es.take k) [] ++ [ev1 bs (table bs (es.take k) []) e] := by
  rw [take_succ' es k e h, table_append]
  rfl
theorem soundGo_at : ∀ (l : List Ex) (k j : Nat) (e : Ex), soundGo l k = true → l[j]? = some e → soundE (k + j) e = true
  | [], _, _, _, _, h => by simp at h
  | x :: r, k, 0, e, hs, h => by
    simp at h
    subst h
    rw [soundGo_cons, Bool.and_eq_true] at hs
    exact hs.1
  | x :: r, k, j + 1, e, hs, h => by
    rw [List.getElem?_cons_succ] at h
    rw [soundGo_cons, Bool.and_eq_true] at hs
    have := soundGo_at r (k + 1) j e hs.2 h
    rwa [show k + (j + 1) = k + 1 + j by omega]
theorem fits0 : fits 0 = true := rfl
theorem tmod_fits {a b : Int} (ha : fits a = true) : fits (a.tmod b) = true := by
  have h : (a.tmod b).natAbs ≤ a.natAbs := by
    rw [Int.natAbs_tmod]
    exact Nat.mod_le _ _
  rw [fits_iff] at *
  have hs : (0 ≤ a → 0 ≤ a.tmod b) := fun h0 => Int.tmod_nonneg b h0
  by_cases h0 : 0 ≤ a
  · have := hs h0
    omega
  · have h1 : 0 ≤ (-a).tmod b := Int.tmod_nonneg b (by omega)
    rw [Int.neg_tmod] at h1
    omega
theorem narrow_fits (n : Int) : fits (narrow n).1 = true := by
  unfold narrow
  split
  · rename_i h
    exact h
  · rfl
theorem calc_fits {op a b : Int} (ha : fits a = true) : fits (calc1 op a b).1 = true := by
  unfold calc1
  split
  · exact narrow_fits _
  · split
    · exact narrow_fits _
    · split
      · exact narrow_fits _
      · split
        · rfl
        · split
          · exact narrow_fits _
          · exact tmod_fits ha
theorem evOp_fits {op : Int} {x y : Ev} (hx : fits x.val.num = true) (hy : fits y.val.num = true) : fits (evOp op x y).val.num = true := by
  unfold evOp
  split
  · exact hx
  · split
    · exact hy
    · split
      · rfl
      · split
        · rfl
        · exact calc_fits hx
theorem lookB_fits {bs : List Bd} (h : ∀ b ∈ bs, fits b.val.num = true) {s : ByteArray} {v : V} (hv : lookB bs s = some v) : fits v.num = true := by
  induction bs with
  | nil => cases hv
  | cons b r ih =>
    rw [lookB_cons] at hv
    split at hv
    · injection hv with hv
      subst hv
      exact h b (by simp)
    · exact ih (fun x hx => h x (List.mem_cons_of_mem _ hx)) hv
theorem evVar_fits {bs : List Bd} (h : ∀ b ∈ bs, fits b.val.num = true) (s : ByteArray) : fits (evVar bs s).val.num = true := by
  unfold evVar
  split
  · rename_i v hv
    exact lookB_fits h hv
  · rfl
theorem getD_fits {tab : List Ev} (h : Fits tab) (i : Nat) : fits (tab.getD i zEv).val.num = true := by
  by_cases hi : i < tab.length
  · have : tab.getD i zEv = tab[i] := by simp [List.getD, hi]
    rw [this]
    exact h _ (List.getElem_mem hi)
  · have : tab.getD i zEv = zEv := by simp [List.getD, hi]
    rw [this]
    rfl
theorem ev1_fits {bs : List Bd} {tab : List Ev} {e : Ex} (hb : ∀ b ∈ bs, fits b.val.num = true) (he : fits e.val.num = true) (ht : Fits tab) : fits (ev1 bs tab e).val.num = true := by
  unfold ev1
  split
  · exact he
  · split
    · exact evVar_fits hb _
    · exact evOp_fits (getD_fits ht _) (getD_fits ht _)
theorem table_fits {bs : List Bd} (hb : ∀ b ∈ bs, fits b.val.num = true) : ∀ (l : List Ex) (tab : List Ev), (∀ e ∈ l, fits e.val.num = true) → Fits tab → Fits (table bs l tab)
  | [], _, _, h => h
  | e :: r, tab, he, h => table_fits hb r (tab ++ [ev1 bs tab e]) (fun x hx => he x (List.mem_cons_of_mem _ hx)) (fun x hx => by
      rcases List.mem_append.1 hx with hx | hx
      · exact h x hx
      · simp at hx
        subst hx
        exact ev1_fits hb (he e (by simp)) h)
def evCells (x : Ev) : List Value := [.int .i64 x.code, .int .i64 x.val.kind, .int .i64 x.val.num, .string x.val.sym]
theorem EvsAt.own {w : World} {g : Nat} {t : TypeId} {N : Nat} {xs : List Ev} (h : OwnB w g t 4 N (xs.map evCells)) : EvsAt none w (some ⟨g, 0, none⟩) xs := by
  intro i x hx
  have hi : (xs.map evCells)[i]? = some (evCells x) := by simp [hx]
  refine ⟨g, 0, evCells x, rfl, Qb.bare _ _ _, rfl, ?_, rfl⟩
  intro j v hj
  rw [Nat.zero_add]
  exact h.cell hi hj
theorem OwnB.put4 {w : World} {g : Nat} {t : TypeId} {N k : Nat} {rs : List (List Value)} (h : OwnB w g t 4 N rs) (hk : rs.length = k) (hN : k < N) (x y z u : Value) :
    OwnB ((((w.setCell ⟨g, k * 4, none⟩ x).setCell ⟨g, k * 4 + 1, none⟩ y).setCell ⟨g, k * 4 + 2, none⟩ z).setCell ⟨g, k * 4 + 3, none⟩ u) g t 4 N (rs ++ [[x, y, z, u]]) := by
  subst hk
  exact h.put [x, y, z, u] rfl hN
theorem OwnB.at4 {w : World} {g : Nat} {t : TypeId} {N : Nat} {rs : List (List Value)} (h : OwnB w g t 4 N rs) {i : Nat} (hi : i < N) :
    ((∃ x, w.cell? ⟨g, i * 4, none⟩ = some x) ∧ (∃ x, w.cell? ⟨g, i * 4 + 1, none⟩ = some x) ∧ (∃ x, w.cell? ⟨g, i * 4 + 2, none⟩ = some x) ∧ (∃ x, w.cell? ⟨g, i * 4 + 3, none⟩ = some x)) ∧
      (w.frozen? ⟨g, i * 4, none⟩ = false ∧ w.frozen? ⟨g, i * 4 + 1, none⟩ = false ∧ w.frozen? ⟨g, i * 4 + 2, none⟩ = false ∧ w.frozen? ⟨g, i * 4 + 3, none⟩ = false) :=
  ⟨⟨h.there (j := 0) hi (by omega), h.there (j := 1) hi (by omega), h.there (j := 2) hi (by omega), h.there (j := 3) hi (by omega)⟩, h.free _, h.free _, h.free _, h.free _⟩
theorem cell_set4' {w : World} {b g o p0 p1 p2 p3 : Nat} {v x0 x1 x2 x3 : Value} (h : w.cell? ⟨b, o, none⟩ = some v) (hne : b ≠ g) : ((((w.setCell ⟨g, p0, none⟩ x0).setCell ⟨g, p1, none⟩ x1).setCell ⟨g, p2, none⟩ x2).setCell ⟨g, p3, none⟩ x3).cell? ⟨b, o, none⟩ = some v := by
  have n : ∀ k, (⟨g, k, none⟩ : Addr) ≠ ⟨b, o, none⟩ := fun k e => hne (by injection e with e; exact e.symm)
  rw [World.cell?_setCell_other _ _ _ _ (n p3), World.cell?_setCell_other _ _ _ _ (n p2), World.cell?_setCell_other _ _ _ _ (n p1), World.cell?_setCell_other _ _ _ _ (n p0)]
  exact h
theorem zeros60 : (Try.zeroCells211).size = 60 * 4 := by kernel_rfl
theorem OwnB.zeros (w : World) : OwnB (w.alloc (.cells Try.zeroCells211 211)) w.heap.size 211 4 60 [] :=
  ⟨_, heap_alloc_new _ _, zeros60, Nat.zero_le _, fun i r h => by simp at h⟩
theorem Bx4.made1 (w : World) (t : TypeId) (x0 x1 x2 x3 : Value) : Bx4 (w.alloc (.cells #[x0, x1, x2, x3] t)) w.heap.size t x0 x1 x2 x3 := heap_alloc_new _ _
theorem evalX_no {es : List Ex} {bs : List Bd} {i : Int} (h : ¬ (0 ≤ i ∧ i < (es.length : Int) ∧ es.length ≤ 60)) : evalX es bs i = evBad 1 := by unfold evalX; rw [if_neg h]
theorem evalX_un {es : List Ex} {bs : List Bd} {i : Int} (h : soundGo (es.take (i.toNat + 1)) 0 = false) : evalX es bs i = evBad 1 := by
  unfold evalX
  split
  · rw [if_neg (by simp [h])]
  · rfl

set_option maxRecDepth 100000 in
set_option maxHeartbeats 1600000 in
theorem iEval_no (es : List Ex) (a : Option Addr) (c : Nat) (a2 : Option Addr) (n2 c2 : Nat) (bs : List Bd) (i : Int) (w : World) (hl : es.length ≤ 1048576) (hno : i < 0 ∨ (0 ≤ i ∧ (es.length : Int) ≤ i) ∨ (0 ≤ i ∧ i < (es.length : Int) ∧ 60 < es.length)) :
    Calls Try.prog 78 #[.slice a es.length c, .slice a2 n2 c2, .int .i64 i] w fun r w' => r = .returned (evV (evalX es bs i)) ∧ Below w.heap.size w w' := by
  have HN := hidE (evalX_no (es := es) (bs := bs) (i := i) (by omega))
  generalize evalX es bs i = E at HN ⊢
  rcases hno with h | ⟨h, h'⟩ | ⟨h, h', h''⟩
  all_goals
    (try have h60 : (60 : Int) < (es.length : Int) := by omega)
    go_enter Try.func78, Try.ntmps78
    go_wp2
    refine bodyPost_ret (v := evV (evBad 1)) (by simp [results, Try.results78, go_sem, evV_bad]) rfl ⟨by rw [HN.out], ?_⟩
    exact (Below.refl _ _).alloc (Nat.le_refl _) _

set_option maxRecDepth 100000 in
set_option maxHeartbeats 1600000 in
theorem iEval_go (es : List Ex) (a : Option Addr) (c : Nat) (a2 : Option Addr) (cb : Nat) (bs : List Bd) (i : Nat) {q q' : Option Nat} (w : World) (hv : ExsAt q w a es) (hb : BdsAt q' w a2 bs) (hl2 : bs.length ≤ 1048576) (hc : es.length ≤ c) (hi : i < es.length) (h60 : es.length ≤ 60) (ho : OpsOkE es) (hfe : ∀ e ∈ es, fits e.val.num = true) (hfb : ∀ b ∈ bs, fits b.val.num = true) :
    Calls Try.prog 78 #[.slice a es.length c, .slice a2 bs.length cb, .int .i64 (i : Int)] w fun r w' => r = .returned (evV (evalX es bs i)) ∧ Below w.heap.size w w' := by
  have B0 : ∀ o, Below w.heap.size w (w.alloc o) := fun o => (Below.refl _ _).alloc (Nat.le_refl _) _
  have hz : (es.take (i + 1)).length = i + 1 := by simp; omega
  have HS := hidE (fun w' (h : Below w.heap.size w w') => sound_any a c (es.take (i + 1)) w' ((RowsAt.take hv (i + 1)).below (fun _ _ _ h => h) h) (by omega) (fun e he => ho e (List.mem_of_mem_take he)))
  rw [hz] at HS
  have i1 : (i : Int) < (es.length : Int) := by omega
  have i2 : (i : Int) + 1 ≤ (c : Int) := by omega
  have i3 : (es.length : Int) ≤ 60 := by omega
  have HX := hidE (Bx4.made1 w 122 (.int .i64 0) (.int .i64 0) (.int .i64 0) (.string ⟨#[]⟩))
  cases hs : soundGo (es.take (i + 1)) 0
  · rw [hs] at HS
    have HN := hidE (evalX_un (es := es) (bs := bs) (i := (i : Int)) (by simpa using hs))
    generalize evalX es bs i = E at HN ⊢
    go_enter Try.func78, Try.ntmps78
    go_wp2_with (go_at_call 141; refine (HS.out _ (B0 _)).mono ?_; rintro r w1 ⟨rfl, hb1⟩; have hBW := (B0 _).trans (hb1.mono (B0 _).size); obtain ⟨⟨f0, f1, f2, f3⟩, ⟨z0, z1, z2, z3⟩, hlt⟩ := (HX.out.bel hb1).facts)
    refine bodyPost_ret (v := evV (evBad 1)) (by simp [results, Try.results78, go_sem, f0, f1, f2, f3, evV_bad]) rfl ⟨by rw [HN.out], ?_⟩
    exact (((hBW.setCell (by simp) _).setCell (by simp) _).setCell (by simp) _).setCell (by simp) _
  · rw [hs] at HS
    have HSG0 := hidE hs
    have HSG := hidE (fun j e h => soundGo_at (es.take (i + 1)) 0 j e hs h)
    have HFT := hidE (fun k => table_fits hfb (es.take k) [] (fun e he => hfe e (List.mem_of_mem_take he)) (fun x hx => by simp at hx))
    have HLN := hidE (fun k => table_len bs (es.take k) [])
    go_enter Try.func78, Try.ntmps78
    go_wp2_with (go_at_call 141; refine (HS.out _ (B0 _)).mono ?_; rintro r w1 ⟨rfl, hb1⟩; have hBW : Below w.heap.size w w1 := (B0 _).trans (hb1.mono (B0 _).size); have HX1 := hidE (HX.out.bel hb1); have hlt := HX1.out.facts.2.2)
    clear hb1 HS HX hs i1 i2 i3 hi h60
    rename_i hB hKK hC
    have HJB := hidE hB
    clear hB
    have HZZ := hidE hz
    clear hz
    have HZ := hidE (OwnB.zeros w1)
    go_loopw [37] (fun v wr => ∃ k : Nat, k ≤ i + 1 ∧ v = .int .i64 k ∧ OwnB wr w1.heap.size 211 4 60 ((table bs (es.take k) []).map evCells) ∧ Bx4 wr w.heap.size 122 (.int .i64 0) (.int .i64 0) (.int .i64 0) (.string ⟨#[]⟩) ∧ Below w.heap.size w wr) (fun v _ => i + 1 - (intOf v).toNat)
    case atStart => exact ⟨0, by omega, rfl, HZ.out, HX1.out.bel ((Below.refl _ _).alloc (Nat.le_refl _) _), hBW.alloc hBW.size _⟩
    case round =>
      obtain ⟨k, hk, rfl, hown, hbx, hbw⟩ := hrel
      have HO := hidE hown
      have HBX := hidE hbx
      have hgl := hown.lt
      clear hown hbx HZ
      by_cases hkl : k < i + 1
      · have hkes : k < es.length := by have := HJB.out; omega
        obtain ⟨e, hek⟩ : ∃ e, es[k]? = some e := ⟨es[k], by simp [hkes]⟩
        obtain ⟨b, o, rfl, hq, c0, c1, c2, c3, c4, c5, c6, c7⟩ := (hv.below hbw).get hek
        have hek' : (es.take (i + 1))[k]? = some e := by rw [List.getElem?_take, if_pos hkl, hek]
        have hse := HSG.out k e hek'
        rw [Nat.zero_add] at hse
        have hln : (table bs (es.take k) []).length = k := by rw [HLN.out]; simp; omega
        have HFk := hidE (HFT.out k)
        have HSN := hidE (table_snoc (bs := bs) hek)
        obtain ⟨tab, hT⟩ : ∃ tab, tab = table bs (es.take k) [] := ⟨_, rfl⟩
        rw [← hT] at hln HFk HSN HO
        have hk60 : k < 60 := by have := HJB.out; omega
        have R1 : ∀ o, Below wr.heap.size wr (wr.alloc o) := fun o => (Below.refl _ _).alloc (Nat.le_refl _) _
        have HEV := hidE (fun o => eval_any e a2 cb bs tab (some ⟨w1.heap.size, 0, none⟩) 60 (wr.alloc o).drew ((hb.below hbw).below (R1 o).drew) hl2 ((EvsAt.own HO.out).below (R1 o).drew) HFk.out (by omega) (by rw [hln]; exact hse))
        rw [hln] at HEV
        obtain ⟨E, hE⟩ : ∃ E, E = ev1 bs tab e := ⟨_, rfl⟩
        rw [← hE] at HEV HSN
        unfold evV exV at HEV
        have hne : wr.heap.size ≠ w1.heap.size := by omega
        have HR1 := hidE R1
        have h60' : (k : Int) < 60 := by omega
        have h60'' : (k : Int) ≤ 60 := by omega
        have HLNK := hidE hln
        clear hT hE hse R1 HFk hln hkes
        go_wp2_with fail
        go_region_held3 (fun w' => w'.cell? ⟨wr.heap.size, 0, none⟩ = some (.int .i64 e.kind) ∧ w'.cell? ⟨wr.heap.size, 1, none⟩ = some (.int .u8 e.op) ∧ w'.cell? ⟨wr.heap.size, 2, none⟩ = some (.string e.var) ∧ w'.cell? ⟨wr.heap.size, 3, none⟩ = some (.int .i64 e.val.kind) ∧ w'.cell? ⟨wr.heap.size, 4, none⟩ = some (.int .i64 e.val.num) ∧ w'.cell? ⟨wr.heap.size, 5, none⟩ = some (.string e.val.sym) ∧ w'.cell? ⟨wr.heap.size, 6, none⟩ = some (.int .i64 e.a) ∧ w'.cell? ⟨wr.heap.size, 7, none⟩ = some (.int .i64 e.b))
          (first | (go_split_ands; (refine ⟨?_, ?_, ?_, ?_, ?_, ?_, ?_, ?_⟩ <;> first | with_reducible assumption | with_reducible exact cell_below hb2 (by assumption) | with_reducible exact cell_set4' (by assumption) hne | (simp [go_sem]; done)); done) | fail)
          (first | (go_at_call 142; with_reducible refine (HEV.out _).mono ?_; rintro r w2 ⟨rfl, hb2⟩; have hW2 := (HR1.out _).drew.trans (hb2.mono (HR1.out _).drew.size); have HW2 := hidE hW2; have HO2 := hidE (HO.out.below hW2 hgl); obtain ⟨⟨⟨u0, q0⟩, ⟨u1, q1⟩, ⟨u2, q2⟩, ⟨u3, q3⟩⟩, ⟨z0, z1, z2, z3⟩⟩ := HO2.out.at4 hk60; clear hW2) | fail)
        have ho3 := HO2.out.put4 (k := k) (by rw [List.length_map]; exact HLNK.out) hk60 (.int .i64 E.code) (.int .i64 E.val.kind) (.int .i64 E.val.num) (.string E.val.sym)
        have HO3 := hidE ho3
        clear HEV HO2 hb2 ho3 q0 q1 q2 q3 z0 z1 z2 z3 c0 c1 c2 c3 c4 c5 c6 c7
        go_wp2_with fail
        have hW3 : Below w1.heap.size wr _ := (((((show Below w1.heap.size wr w2 from HW2.out.mono (by omega))).setCell (p := ⟨w1.heap.size, k * 4, none⟩) (Nat.le_refl _) (.int .i64 E.code)).setCell (p := ⟨w1.heap.size, k * 4 + 1, none⟩) (Nat.le_refl _) (.int .i64 E.val.kind)).setCell (p := ⟨w1.heap.size, k * 4 + 2, none⟩) (Nat.le_refl _) (.int .i64 E.val.num)).setCell (p := ⟨w1.heap.size, k * 4 + 3, none⟩) (Nat.le_refl _) (.string E.val.sym)
        go_roundw
        case rel => exact ⟨k + 1, by omega, by go_num, by rw [HSN.out, List.map_append]; exact HO3.out, HBX.out.below hW3 hlt, hbw.trans (hW3.mono hBW.size)⟩
        case measure => simp [intOf]; omega
      · have hkk : k = i + 1 := by omega
        have HLI := hidE (HLN.out (i + 1))
        have HXE : Hid (evalX es bs i = (table bs (es.take (i + 1)) []).getD i zEv) := show evalX es bs i = _ from by
          unfold evalX
          rw [Int.toNat_natCast, if_pos (by have := HJB.out; omega), if_pos HSG0.out]
        rw [hkk] at HO
        obtain ⟨tab, hT⟩ : ∃ tab, tab = table bs (es.take (i + 1)) [] := ⟨_, rfl⟩
        rw [← hT] at HLI HXE HO
        have hln : tab.length = i + 1 := by rw [HLI.out]; have := HJB.out; simp; omega
        obtain ⟨E, hE⟩ : ∃ E, tab[i]? = some E := ⟨tab[i]'(by omega), by simp⟩
        have HE : Hid (evalX es bs i = E) := show evalX es bs i = E from by rw [HXE.out]; simp [List.getD, hE]
        obtain ⟨b', o', e', _, d0, d1, d2, d3⟩ := (EvsAt.own HO.out).get hE
        simp only [Option.some.injEq, Addr.mk.injEq, and_true] at e'
        obtain ⟨rfl, rfl⟩ := e'
        rw [Nat.zero_add] at d0 d1 d2 d3
        obtain ⟨⟨f0, f1, f2, f3⟩, ⟨z0, z1, z2, z3⟩, hlt2⟩ := HBX.out.facts
        have hi60 : (i : Int) < 60 := by have := HJB.out; omega
        have hne : w.heap.size ≠ w1.heap.size := by omega
        clear hT hE HXE HLI HLN HFT HSG HO
        go_wp2_with fail
        refine bodyPost_ret (v := evV E) (by simp [results, Try.results78, go_sem, f0, f1, f2, f3, evV]) rfl ⟨by rw [HE.out], ?_⟩
        exact (((hbw.setCell (by simp) _).setCell (by simp) _).setCell (by simp) _).setCell (by simp) _
theorem iEval_any (es : List Ex) (a : Option Addr) (c : Nat) (a2 : Option Addr) (cb : Nat) (bs : List Bd) (i : Int) {q q' : Option Nat} (w : World) (hv : ExsAt q w a es) (hb : BdsAt q' w a2 bs) (hl : es.length ≤ 1048576) (hl2 : bs.length ≤ 1048576) (hc : es.length ≤ c) (ho : OpsOkE es) (hfe : ∀ e ∈ es, fits e.val.num = true) (hfb : ∀ b ∈ bs, fits b.val.num = true) :
    Calls Try.prog 78 #[.slice a es.length c, .slice a2 bs.length cb, .int .i64 i] w fun r w' => r = .returned (evV (evalX es bs i)) ∧ Below w.heap.size w w' := by
  by_cases h : 0 ≤ i ∧ i < (es.length : Int) ∧ es.length ≤ 60
  · obtain ⟨n, rfl⟩ := Int.eq_ofNat_of_zero_le h.1
    exact iEval_go es a c a2 cb bs n w hv hb hl2 hc (by omega) h.2.2 ho hfe hfb
  · exact iEval_no es a c a2 bs.length cb bs i w hl (by omega)
end Go.Proofs.Ytpiglmkpmlogjaa

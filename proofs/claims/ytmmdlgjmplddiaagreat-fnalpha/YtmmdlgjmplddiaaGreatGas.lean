/-
  OUR OWN TEXT. Ic6, Dw13, RdD, An1, EqR, Nt0, EqA, EqAl, Nt2e, An2, one behind the other.
-/
import Derived.Test.YtmmdlgjmplddiaaGreatIc4m
import Derived.Test.YtmmdlgjmplddiaaGreatIc4bm
import Derived.Test.YtmmdlgjmplddiaaGreatGaa
import Derived.Test.YtmmdlgjmplddiaaGreatGal
import Derived.Test.YtmmdlgjmplddiaaGreatGan
import Derived.Test.YtmmdlgjmplddiaaGreatGam
import Derived.Deep.RegionHeld3
import Derived.BigQuiet
import Derived.Test.YtmmdlgjmplddiaaGreatGah
import Derived.Deep.DrawnRows
namespace Go.Proofs.YtmmdlgjmplddiaaGreat
open Go.RowKit
attribute [local go_sem ↓] Go.wp_at_zero Go.wp_at_succ

theorem hideIt {p : Prop} (h : p) : Hid p := h

set_option maxHeartbeats 800000 in
theorem exprSpan_any (e : Ex) (a : Option Addr) (c : Nat) (S : List Sp) {q : Option Nat} (w : World) (hv : SpsAt q w a S) (hl : S.length ≤ 60) (hs : e.le maxLen) (ho0 : 0 ≤ e.op) (ho1 : e.op < 256) (hd : ∀ (i : Nat) (s : Sp), S[i]? = some s → s.1 ≤ i ∧ s.2 ≤ 20) :
    Calls Tryz.prog 151 #[.agg #[.int .i64 e.kind, .int .u8 e.op, .string e.var, .int .i64 e.val.kind, .int .i64 e.val.num, .string e.val.sym, .int .i64 e.a, .int .i64 e.b], .slice a S.length c] w fun r w' =>
      (∃ f d : Int, r = .returned (.tuple #[.agg #[.int .i64 f, .int .i64 d], .bool (spanOf S e).isSome]) ∧ ∀ s, spanOf S e = some s → f = (s.1 : Int) ∧ d = (s.2 : Int)) ∧ Below w.heap.size w w' := by
  by_cases k0 : e.kind = 0
  · have hs0 : spanOf S e = if leafOk e && (isE e.var && gVal e.val) then some (S.length, 0) else none := by simp [spanOf, k0]
    refine (exprSpan_0 e a c S w hs k0).mono ?_
    rintro r w' ⟨rfl, hb⟩
    rw [hs0]
    refine ⟨⟨S.length, 0, ?_, ?_⟩, hb⟩
    · cases leafOk e && (isE e.var && gVal e.val) <;> rfl
    · intro s h
      split at h
      · injection h with h
        rw [← h]
        exact ⟨rfl, rfl⟩
      · cases h
  by_cases k1 : e.kind = 1
  · have hs0 : spanOf S e = if leafOk e && (gSym e.var.data.toList && zeroV e.val) then some (S.length, 0) else none := by simp [spanOf, k1]
    refine (exprSpan_1 e a c S w hs k1).mono ?_
    rintro r w' ⟨rfl, hb⟩
    rw [hs0]
    refine ⟨⟨S.length, 0, ?_, ?_⟩, hb⟩
    · cases leafOk e && (gSym e.var.data.toList && zeroV e.val) <;> rfl
    · intro s h
      split at h
      · injection h with h
        rw [← h]
        exact ⟨rfl, rfl⟩
      · cases h
  have B3 : ∀ o o1 o2, Below w.heap.size w (((w.alloc o).alloc o1).alloc o2) := fun o o1 o2 => (((Below.refl _ _).alloc (Nat.le_refl _) _).alloc (by simp) _).alloc (by simp; omega) _
  by_cases k2 : e.kind = 2
  · have hsp := fun w h => spanOfParts_any e a c S (q := q) w h hl k2 ho0 ho1 hd
    simp only [k2] at hsp
    have HP := hideIt hsp
    clear hsp
    go_enter Tryz.func151, Tryz.ntmps151
    go_wp2_with (go_at_call 168; refine (HP.out _ (hv.below (B3 _ _ _))).mono ?_; rintro e' w' ⟨⟨f, d, rfl, hfd⟩, hb'⟩; have y0 : w'.cell? ⟨w.heap.size + 1, 0, none⟩ = some (.int .i64 0) := cell_below hb' (by simp [go_sem]); have y1 : w'.cell? ⟨w.heap.size + 1, 1, none⟩ = some (.int .i64 0) := cell_below hb' (by simp [go_sem]); have yf0 : w'.frozen? ⟨w.heap.size + 1, 0, none⟩ = false := (by rw [(bcell hb').2 _ _ (by simp)]; simp [go_sem]); have yf1 : w'.frozen? ⟨w.heap.size + 1, 1, none⟩ = false := (by rw [(bcell hb').2 _ _ (by simp)]; simp [go_sem]))
    have hB' : Below w.heap.size w w' := (B3 _ _ _).trans (hb'.mono (by simp; omega))
    refine bodyPost_ret (v := .tuple #[.agg #[.int .i64 f, .int .i64 d], .bool (spanOf S e).isSome]) (by simp [results, Tryz.results151, go_sem, y0, y1]) rfl ⟨⟨f, d, rfl, hfd⟩, (hB'.setCell (by simp) _).setCell (by simp) _⟩
  · have HN : Hid (spanOf S e = none) := show spanOf S e = none from by simp [spanOf, k0, k1, k2]
    go_enter Tryz.func151, Tryz.ntmps151
    go_wp2
    refine bodyPost_ret (v := .tuple #[.agg #[.int .i64 0, .int .i64 0], .bool false]) (by simp [results, Tryz.results151, go_sem]) rfl ⟨⟨0, 0, by rw [HN.out]; rfl, fun s h => (by rw [HN.out] at h; cases h)⟩, B3 _ _ _⟩

def spCells (s : Sp) : List Value := [.int .i64 (s.1 : Int), .int .i64 (s.2 : Int)]
theorem spFlat_at : ∀ (S : List Sp) (i : Nat) (s : Sp), S[i]? = some s → (S.flatMap spCells)[i * 2]? = some (.int .i64 (s.1 : Int)) ∧ (S.flatMap spCells)[i * 2 + 1]? = some (.int .i64 (s.2 : Int))
  | [], i, s, h => by simp at h
  | x :: r, 0, s, h => by
    simp at h
    subst h
    exact ⟨rfl, rfl⟩
  | x :: r, i + 1, s, h => by
    have := spFlat_at r i s (by simpa using h)
    rw [List.flatMap_cons]
    refine ⟨?_, ?_⟩
    · rw [List.getElem?_append_right (by simp [spCells]; omega), show (i + 1) * 2 - (spCells x).length = i * 2 by simp [spCells]; omega]
      exact this.1
    · rw [List.getElem?_append_right (by simp [spCells]; omega), show (i + 1) * 2 + 1 - (spCells x).length = i * 2 + 1 by simp [spCells]; omega]
      exact this.2
theorem SpsAt.owns {w : World} {base n : Nat} {a : Option Addr} {c : Nat} {S : List Sp} (h : w.ownsRow base 246 2 (.slice a n c) n (S.flatMap spCells)) : SpsAt none w a S := by
  intro i s hs
  obtain ⟨k0, k1⟩ := spFlat_at S i s hs
  obtain ⟨g, rfl, _, h0, _⟩ := owns_cell h k0
  obtain ⟨g1, he1, _, h1, _⟩ := owns_cell h k1
  cases he1
  refine ⟨g, 0, [.int .i64 (s.1 : Int), .int .i64 (s.2 : Int)], rfl, Qb.bare _ _ _, rfl, ?_, rfl⟩
  intro j v hj
  rw [Nat.zero_add]
  match j, hj with
  | 0, hj => simp at hj; subst hj; exact h0
  | 1, hj => simp at hj; subst hj; exact h1
theorem infoSp : (Tryz.prog.info? 246).map (fun i => (i.zero, i.size, i.bytes)) = some (some (.agg #[.int .i64 0, .int .i64 0]), 2, 16) := by kernel_rfl
theorem news_alloc' (w : World) (L : List Value) (t : TypeId) (ad : Addr) (e : some (⟨w.heap.size, 0, none⟩ : Addr) = some ad) (j : Nat) (u : Value) (h : L[j]? = some u) : (w.alloc (.cells L.toArray t)).cell? (ad.add j) = some u := by
  cases e
  rw [Addr.add_mid, Nat.zero_add]
  have hb := heap_alloc_new w (.cells L.toArray t)
  simp only [World.cell?, hb]
  simpa using h
theorem news_alloc2 (w : World) (L : List Value) (t : TypeId) (b : Nat) (hb : b = w.heap.size) (ad : Addr) (e : some (⟨b, 0, none⟩ : Addr) = some ad) (j : Nat) (u : Value) (h : L[j]? = some u) : (w.alloc (.cells L.toArray t)).cell? (ad.add j) = some u := by
  subst hb
  exact news_alloc' w L t ad e j u h
theorem ownsBelow {w w' : World} {base : Nat} {e : TypeId} {size : Nat} {v : Value} {n : Nat} {xs : List Value} (h : w.ownsRow base e size v n xs) (hb : Below w.heap.size w w') : w'.ownsRow base e size v n xs :=
  owns_of_block h (fun g hg => hb.block g (h.lt g hg).2)
theorem spCells_one (s : Sp) : ∀ u ∈ spCells s, u.oneCell' = true := by
  intro u hu
  simp [spCells] at hu
  rcases hu with rfl | rfl <;> rfl

/-- Each op is a byte. -/
def OpsOk (es : List Ex) : Prop := ∀ e ∈ es, 0 ≤ e.op ∧ e.op < 256

set_option maxHeartbeats 1600000 in
theorem spans_any (x : Ru) (a_pats : Option Addr) (c_pats : Nat) (a_exprs : Option Addr) (c_exprs : Nat) (a_acts : Option Addr) (c_acts : Nat) {q : Option Nat} (w : World) (h_exprs : ExsAt q w a_exprs x.exprs) (hl : x.exprs.length ≤ 60) (hs : ListLe Ex.le maxLen x.exprs) (ho : OpsOk x.exprs) :
    Calls Tryz.prog 130 #[.agg #[.string x.name, .int .i64 x.sal, .slice a_pats x.pats.length c_pats, .slice a_exprs x.exprs.length c_exprs, .slice a_acts x.acts.length c_acts]] w fun e w' =>
      (∃ a c, e = .returned (.tuple #[.slice a (spansGo [] x.exprs).length c, .bool (decide ((spansGo [] x.exprs).length = x.exprs.length))]) ∧ SpsAt none w' a (spansGo [] x.exprs)) ∧ Below w.heap.size w w' := by
  go_enter Tryz.func130, Tryz.ntmps130
  go_wp2
  go_loopw [4, 12] (fun v i wr => ∃ (S : List Sp) (a : Option Addr) (c : Nat), S.length ≤ x.exprs.length ∧ i = .int .i64 (S.length : Int) ∧ v = .slice a S.length c ∧ Spans x.exprs S ∧ spansGo [] x.exprs = spansGo S (x.exprs.drop S.length) ∧ wr.ownsRow w.heap.size 246 2 (.slice a S.length c) S.length (S.flatMap spCells) ∧ Below w.heap.size w wr) (fun _ i _ => x.exprs.length - (intOf i).toNat)
  case atStart => exact ⟨[], none, 0, by simp, rfl, rfl, Spans.nil _, rfl, World.ownsRow_nil _ _ _ _, (Below.refl _ _).alloc (Nat.le_refl _) _⟩
  case round =>
    obtain ⟨S, a, c, hk, rfl, rfl, hS, hG, hown, hb⟩ := hrel
    have HG : Hid (spansGo [] x.exprs = spansGo S (x.exprs.drop S.length)) := hG
    have HO := hideIt hown
    clear hG hown
    by_cases hkl : S.length < x.exprs.length
    · obtain ⟨e, hek⟩ : ∃ e, x.exprs[S.length]? = some e := ⟨x.exprs[S.length], by simp [hkl]⟩
      obtain ⟨b, o, rfl, hq, c0, c1, c2, c3, c4, c5, c6, c7⟩ := (h_exprs.below hb).get hek
      have HD : Hid (x.exprs.drop S.length = e :: x.exprs.drop (S.length + 1)) := drop_cons hek
      have hse := hs.2 e (List.mem_of_getElem? hek)
      obtain ⟨ho0, ho1⟩ := ho e (List.mem_of_getElem? hek)
      have hd : Hid (∀ (i : Nat) (s : Sp), S[i]? = some s → s.1 ≤ i ∧ s.2 ≤ 20) := show ∀ (i : Nat) (s : Sp), S[i]? = some s → s.1 ≤ i ∧ s.2 ≤ 20 from fun i s h => ⟨hS.first_le i s h, hS.depth_le i s h⟩
      have HS := hideIt hS
      clear hS
      have B1 : ∀ o, Below wr.heap.size wr (wr.alloc o) := fun o => (Below.refl _ _).alloc (Nat.le_refl _) _
      cases hsp : spanOf S e with
      | none =>
        have HN : Hid (spansGo [] x.exprs = S) := show spansGo [] x.exprs = S from by rw [HG.out, HD.out, spansGo, hsp]
        go_wp2_with (go_at_call 151; refine (exprSpan_any e a c S _ ((SpsAt.owns HO.out).below (B1 _)) (by omega) hse ho0 ho1 hd.out).mono ?_; rintro e' w1 ⟨⟨f, d, rfl, hfd⟩, hb1⟩)
        have hW1 : Below wr.heap.size wr w1 := (B1 _).trans (hb1.mono (by simp))
        have hW2 : Below w.heap.size w w1 := hb.trans (hW1.mono hb.size)
        refine bodyPost_ret (v := .tuple #[.slice a S.length c, .bool false]) (by simp [results, Tryz.results130, go_sem]) rfl ⟨⟨a, c, by rw [HN.out, decide_eq_false (by omega)], ?_⟩, hW2.alloc hW2.size _⟩
        rw [HN.out]
        exact ((SpsAt.owns HO.out).below hW1).below ((Below.refl _ _).alloc (Nat.le_refl _) _)
      | some s =>
        have HN : Hid (spansGo [] x.exprs = spansGo (S ++ [s]) (x.exprs.drop (S.length + 1))) := show spansGo [] x.exprs = _ from by rw [HG.out, HD.out, spansGo, hsp]
        go_wp2_with (first | (go_at_call 151; refine (exprSpan_any e a c S _ ((SpsAt.owns HO.out).below (B1 _)) (by omega) hse ho0 ho1 hd.out).mono ?_; rintro e' w1 ⟨⟨f, d, rfl, hfd⟩, hb1⟩; obtain ⟨rfl, rfl⟩ := hfd s hsp; have hW1 : Below wr.heap.size wr w1 := (B1 _).trans (hb1.mono (by simp)); have ho1 := hideIt (ownsBelow HO.out hW1)) | (at_builtin; refine wpList_append_any (by rfl) (.tmp 25) (.tmp 27) 221 (by rfl) w.heap.size 246 _ 2 16 Tryz.underlying221 infoSp (by rfl) (by omega) _ S.length _ (by rfl) ((ho1.out.alloc _).alloc _) (some ⟨w1.heap.size + 1, 0, none⟩) 1 1 (by rfl) (spCells s) (by rfl) (fun e => by cases e) (news_alloc2 _ _ _ _ (by simp)) (spCells_one s) (by unfold maxLen; omega) (by omega) (by have h1 := hb.size; have h2 := hW1.size; simp; omega) ?_; intro a2 c2' w2 ho2 hg2 hl2))
        have hW2 : Below w.heap.size w w1 := hb.trans (hW1.mono hb.size)
        have hsz := hW2.size
        go_roundw
        case rel =>
          refine ⟨S ++ [s], a2, c2', by simp; omega, by simp, by simp, HS.out.snoc hek hsp, ?_, ?_, ?_⟩
          · rw [HN.out]
            simp
          · have := ho2.out
            rw [List.flatMap_append]
            simpa [spCells] using this
          · exact ((hW2.alloc hsz _).alloc (by simp; omega) _).grown hg2.out (by simp; omega) (fun j hj => (ho1.out.lt j hj).1)
        case measure => simp [intOf]; omega
    · go_wp2
      have HN : Hid (spansGo [] x.exprs = S) := show spansGo [] x.exprs = S from by
        rw [HG.out, List.drop_eq_nil_of_le (by omega)]
        rfl
      refine bodyPost_ret (v := .tuple #[.slice a S.length c, .bool true]) (by simp [results, Tryz.results130, go_sem]) rfl ⟨⟨a, c, by rw [HN.out, decide_eq_true (by omega)], ?_⟩, hb⟩
      rw [HN.out]
      exact SpsAt.owns HO.out
end Go.Proofs.YtmmdlgjmplddiaaGreat

namespace Go.Proofs.YtmmdlgjmplddiaaGreat
open Go.RowKit
attribute [local go_sem ↓] Go.wp_at_zero Go.wp_at_succ

theorem rows_own {α β : Type} {R : World → List Value → β → Prop} {cells : α → List Value} {f : α → β} {m : Nat} (hm : ∀ x, (cells x).length = m) (h0 : 0 < m) {w : World} {base : Nat} {t : TypeId} {a : Option Addr} {n c : Nat} {L : List α} (h : w.ownsRow base t m (.slice a n c) n (L.flatMap cells)) (hR : ∀ x ∈ L, R w (cells x) (f x)) : RowsAt R none t m w a (L.map f) := by
  intro i y hy
  rw [List.getElem?_map] at hy
  obtain ⟨x, hx, rfl⟩ := Option.map_eq_some_iff.1 hy
  have key := fun j u (hj : (cells x)[j]? = some u) => owns_cell h (flat_gen (cells := cells) (m := m) hm L i x j u hx hj)
  obtain ⟨k, rfl, _⟩ := key 0 ((cells x)[0]'(by rw [hm]; exact h0)) (by simp)
  refine ⟨k, 0, cells x, rfl, Qb.bare _ _ _, hm x, fun j v hj => ?_, hR x (List.mem_of_getElem? hx)⟩
  obtain ⟨k', e, _, hc, _⟩ := key j v hj
  cases e
  rw [Nat.zero_add]
  exact hc
theorem PO.pts {w : World} {base : Nat} {a : Option Addr} {c : Nat} {L : List PtV} (h : PO w base a c L) : PtsAt none w a (L.map Prod.fst) := by
  refine rows_own (cells := pcells) (fun _ => rfl) (by decide) h.1 (fun x hx => ?_)
  obtain ⟨⟨ta, tc, e⟩, ho, _⟩ := h.2 x hx
  rw [e] at ho
  have ht : TmsAt none w ta x.1.terms := by
    have := rows_own (R := Tm.R) (cells := tmCells) (f := id) (fun _ => rfl) (by decide) ho (fun _ _ => rfl)
    simpa using this
  exact ⟨ta, tc, by rw [pcells, e], ht, own_cap ho⟩
theorem AcO.acs {w : World} {base : Nat} {a : Option Addr} {c : Nat} {Y : List AcV} (h : AcO w base a c Y) : AcsAt none w a (Y.map Prod.fst) := by
  refine rows_own (cells := acells) (fun _ => rfl) (by decide) h.1 (fun x hx => ?_)
  obtain ⟨⟨ta, tc, e⟩, ho⟩ := h.2 x hx
  rw [e] at ho
  exact ⟨ta, tc, by rw [acells, e], IntsAt.owns ho⟩
theorem RO.rus {w : World} {base : Nat} {a : Option Addr} {c : Nat} {M : List RuX} (h : RO w base a c M) : RusAt none w a (M.map RuX.ru) := by
  refine rows_own (cells := rcells) (fun _ => rfl) (by decide) h.1 (fun x hx => ?_)
  obtain ⟨⟨pa, pc, e1, h1⟩, ⟨ea, ec, e2, h2, _⟩, aa, ac, e3, h3⟩ := h.2 x hx
  have he : ExsAt none w ea x.es := by
    have := rows_own (R := Ex.R) (cells := exCells) (f := id) (fun _ => rfl) (by decide) h2 (fun _ _ => rfl)
    simpa using this
  exact ⟨pa, pc, ea, ec, aa, ac, by unfold rcells; rw [e1, e2, e3]; simp [RuX.ru], h1.pts, he, h3.acs, own_cap h2⟩
theorem RO.cap {w : World} {base : Nat} {a : Option Addr} {c : Nat} {M : List RuX} (h : RO w base a c M) : M.length ≤ c := own_cap h.1
theorem gSym_small {s : ByteArray} (h : gSym s.data.toList = true) : s.size ≤ 1048576 := by
  simp only [gSym, Bool.and_eq_true, decide_eq_true_eq] at h
  have : s.data.toList.length = s.size := Array.length_toList
  omega
theorem isE_small {s : ByteArray} (h : isE s = true) : s.size ≤ 1048576 := by
  rw [bytes_empty h]
  exact Nat.zero_le _
theorem cls_small {a : Ac} (h : fieldsOk a = true) : a.cls.size ≤ 1048576 := by
  unfold fieldsOk at h
  split at h
  · simp only [gCls, Bool.and_eq_true] at h
    exact gSym_small h.1.1
  · split at h
    · simp only [Bool.and_eq_true] at h
      exact isE_small h.1.1
    · split at h
      · simp only [Bool.and_eq_true] at h
        exact isE_small h.1
      · split at h
        · simp only [Bool.and_eq_true] at h
          exact isE_small h.1
        · cases h
theorem ActsT.le {K : List ByteArray} {pos : Nat} : ∀ {us : List Ac} {n : Nat} {ys : List Ex}, ActsT K pos n ys us → ∀ a ∈ us, Ac.le 1048576 a
  | [], n, ys, h => by simp
  | x :: r, n, ys, h => by
    obtain ⟨A, C, rfl, hA, hx, hC⟩ := h
    intro a ha
    rcases List.mem_cons.1 ha with rfl | ha
    · exact ⟨cls_small hx.1, by omega⟩
    · exact ActsT.le hC a ha
/-- What is known of rules that were drawn. -/
structure RsOk (rs : List Ru) : Prop where
  len : 1 ≤ rs.length ∧ rs.length ≤ 8
  chk : chk rs = (0, 0, 0)
  le : ListLe Ru.le 1048576 rs
  ops : ∀ x ∈ rs, OpsOk x.exprs
  vok : ∀ r ∈ rs, ∀ p ∈ r.pats, ∀ t ∈ p.terms, VOk t.val
  sal : ∀ r ∈ rs, -9223372036854775808 ≤ r.sal ∧ r.sal ≤ 9223372036854775807
theorem vok_sm {v : V} (h : VSm v) : VOk v := by
  obtain ⟨h1, ⟨h2, h3⟩, h4, h5, _⟩ := h
  exact ⟨wf_rangeN h2 h3, wf_rangeN h4 h5, by unfold maxLen; omega⟩
theorem rs_ok {w : World} {base : Nat} {a : Option Addr} {c : Nat} {M : List RuX} (h : RO w base a c M) (hM : MOk M) (h1 : 1 ≤ M.length) (h8 : M.length ≤ 8) : RsOk (M.map RuX.ru) := by
  have hpt : ∀ x ∈ M, ∀ y ∈ x.pats, PtX w base y := fun x hx y hy => by
    obtain ⟨⟨pa, pc, e1, h1⟩, _⟩ := h.2 x hx
    exact h1.2 y hy
  have hex : ∀ x ∈ M, ∀ e ∈ x.es, ExSm e := fun x hx => by
    obtain ⟨_, ⟨_, _, _, _, h3⟩, _⟩ := h.2 x hx
    exact h3
  have hd : ∀ x ∈ M, ∃ k, DRu k x.ru := fun x hx => by
    obtain ⟨i, hi⟩ := List.mem_iff_getElem?.1 hx
    exact ⟨i, (hM i x hi).1⟩
  refine ⟨by simpa using And.intro h1 h8, chk_drawn (fun i r hr => ?_) (by simp; omega), ⟨by simp; omega, fun r hr => ?_⟩, fun r hr e he => ?_, fun r hr p hp t ht => ?_, fun r hr => ?_⟩
  · rw [List.getElem?_map] at hr
    obtain ⟨x, hx, rfl⟩ := Option.map_eq_some_iff.1 hr
    exact (hM i x hx).1
  · obtain ⟨x, hx, rfl⟩ := List.mem_map.1 hr
    obtain ⟨k, hn, K, pos, hdr⟩ := hd x hx
    refine ⟨?_, ⟨by have := hdr.pats; omega, fun p hp => ?_⟩, ⟨by have := hdr.exprs; omega, fun e he => ?_⟩, by have := hdr.acts; omega, fun a ha => ?_⟩
    · rw [hn]
      exact Nat.le_trans (show (nmK k).size ≤ 2 from Nat.le_refl 2) (by decide)
    · obtain ⟨y, hy, rfl⟩ := List.mem_map.1 hp
      obtain ⟨_, _, hc, ht3, hts⟩ := hpt x hx y hy
      exact ⟨by have := hc.1; omega, by omega, fun t ht => ⟨by have := (hts t ht).1; omega, by have := (hts t ht).2.1.1; omega⟩⟩
    · have := hex x hx e he
      exact ⟨by have := this.1; omega, by have := this.2.1.1; omega⟩
    · exact hdr.trees.le a ha
  · obtain ⟨x, hx, rfl⟩ := List.mem_map.1 hr
    exact ⟨(hex x hx e he).2.2.1, (hex x hx e he).2.2.2⟩
  · obtain ⟨x, hx, rfl⟩ := List.mem_map.1 hr
    obtain ⟨y, hy, rfl⟩ := List.mem_map.1 hp
    obtain ⟨_, _, _, _, hts⟩ := hpt x hx y hy
    exact vok_sm (hts t ht).2.1
  · obtain ⟨x, hx, rfl⟩ := List.mem_map.1 hr
    obtain ⟨i, hi⟩ := List.mem_iff_getElem?.1 hx
    exact (hM i x hi).2
/-- What is known of facts that were drawn. -/
structure FsOk (most : Nat) (fs : List F) : Prop where
  len : fs.length ≤ most
  good : gFacts fs = true
  sized : ∀ f ∈ fs, Sized f
  read : ∀ f ∈ fs, (Lit.int .i64 f.tag).wf = true ∧ ∀ v ∈ f.slots, VOk v
theorem gFrom_range : ∀ {fs : List F} {last : Int}, gFrom last fs = true → ∀ f ∈ fs, last < f.tag ∧ f.tag ≤ 1000000
  | [], _, _, f, hf => by simp at hf
  | g :: r, last, h, f, hf => by
    simp only [gFrom, okF, Bool.and_eq_true, decide_eq_true_eq] at h
    rcases List.mem_cons.1 hf with rfl | hf
    · exact ⟨h.1.1, h.1.2.1⟩
    · have := gFrom_range h.2 f hf
      exact ⟨by omega, this.2⟩
theorem fs_ok {most : Nat} {fs : List F} (hl : fs.length ≤ most) (hm : most ≤ 12) (hg : gFrom 0 fs = true) (hf : FOk fs) : FsOk most fs := by
  refine ⟨hl, ?_, fok_sized hf, fun f h => ⟨?_, fun v hv => vok_sm ((hf f h).2.2 v hv)⟩⟩
  · simp only [gFacts, Bool.and_eq_true, decide_eq_true_eq]
    exact ⟨by omega, hg⟩
  · have := gFrom_range hg f h
    exact wf_rangeN (by omega) (by omega)
def ByA (w : World) (a : Option Addr) (n : Nat) : Prop := ∀ j, j < n → ∃ (b o : Nat) (u : Nat), a = some ⟨b, o, none⟩ ∧ b < w.heap.size ∧ u < 256 ∧ w.cell? ⟨b, o + j, none⟩ = some (.int .u8 (u : Int))
theorem ByA.below {w w' : World} {a : Option Addr} {n : Nat} (h : ByA w a n) (hb : Below w.heap.size w w') : ByA w' a n := fun j hj => by
  obtain ⟨b, o, u, e1, e2, e3, e4⟩ := h j hj
  exact ⟨b, o, u, e1, Nat.lt_of_lt_of_le e2 hb.size, e3, cell_below hb e4⟩
theorem ByA.rdr {w : World} {a : Option Addr} {n c g : Nat} (h : ByA w a n) (hn : n ≤ 1048576) (hg : w.heap.size = g) : Rdr (w.alloc (.cells #[.slice a n c, .int .i64 0] 64)) g := by
  subst hg
  refine ⟨a, n, c, 0, heap_alloc_new _ _, Nat.zero_le _, hn, fun j hj => ?_⟩
  obtain ⟨b, o, u, e1, e2, e3, e4⟩ := h j hj
  exact ⟨b, o, u, e1, e2, e3, cell_below ((Below.refl _ _).alloc (Nat.le_refl _) _) e4⟩
theorem set_block {v : World} {d : Nat} {x0 x1 x2 x3 : Value} (k : Nat) (hk : k ≠ d) : ((((v.setCell ⟨d, 0, none⟩ x0).setCell ⟨d, 1, none⟩ x1).setCell ⟨d, 2, none⟩ x2).setCell ⟨d, 3, none⟩ x3).heap[k]? = v.heap[k]? := by
  have e1 : ∀ (u : World) (j : Nat) (x : Value), (u.setCell ⟨d, j, none⟩ x).heap[k]? = u.heap[k]? := fun u j x => Below.heap_setCell _ _ _ _ hk
  rw [e1, e1, e1, e1]
set_option maxRecDepth 100000 in
set_option maxHeartbeats 1600000 in
theorem DrawWorld_any (a : Option Addr) (n c most : Nat) (w : World) (h : ByA w a n) (hn : n ≤ 1048576) (hm : most ≤ 12) : Calls Tryz.prog 6 #[.slice a n c, .int .i64 (most : Int)] w fun e w' => ∃ ra rc rs fa fc fs nx cp sg, e = .returned (.tuple #[.slice ra (List.length rs) rc, stV fa (List.length fs) fc nx cp sg]) ∧ RsOk rs ∧ FsOk most fs ∧ RusAt none w' ra rs ∧ rs.length ≤ rc ∧ FactsAt w' fa fs ∧ fs.length ≤ fc ∧ Below w.heap.size w w' := by
  have HB := hidR h
  clear h
  have HA := hidR (fun o => (Below.refl _ _).alloc (Nat.le_refl _) o : ∀ o, Below w.heap.size w (w.alloc o))
  have RD := hidR (fun o => (HB.out.below (HA.out o)).rdr (c := c) hn (g := w.heap.size + 1) (by simp))
  go_enter Tryz.func6, Tryz.ntmps6
  go_wp2_with fail
  refine (l6World_any (w.heap.size + 1) most _ (RD.out _) hm).mono ?_
  rintro e w1 ⟨ra, rc, M, fa, fc, fs, nx, cp, sg, rfl, ⟨hM1, hM8, hMK⟩, hRO, ⟨hFA, hfc, hgf, hfl, hfk⟩, hr1⟩
  have S1 := hidR (show TB w1 w.heap.size none 0 0 0 0 false from block_rs hr1 ((Below.heap_alloc _ _ _ (by simp)).trans (heap_alloc_new _ _)) (by omega))
  have MO1 := hidR (hRO.lower (base' := w.heap.size) (by simp; omega))
  have FA1 := hidR hFA
  have HK := hidR (And.intro (rs_ok hRO hMK hM1 hM8) (fs_ok hfl hm hgf hfk))
  have B1 := hidR (show Below w.heap.size w w1 from (((HA.out _).alloc (by simp) _).trans (hr1.1.below (by simp; omega) (fun g hg => by injection hg with hg; omega))))
  clear hRO hr1 HA RD HB hFA hMK hgf hfk
  obtain ⟨⟨f0, f1, f2, f3⟩, z, hb1⟩ := S1.out.facts
  have z0 := z 0
  have z1 := z 1
  have z2 := z 2
  have z3 := z 3
  clear z
  unfold stV
  go_wp2_with fail
  refine bodyPost_ret (v := .tuple #[.slice ra M.length rc, stV fa fs.length fc nx cp sg]) (by simp [results, Tryz.results6, go_sem, f0, f1, f2, f3, stV]) rfl ⟨ra, rc, M.map RuX.ru, fa, fc, fs, nx, cp, sg, by simp, HK.out.1, HK.out.2, ?_, by simpa using MO1.out.cap, ?_, hfc, ?_⟩
  · exact (MO1.out.same (Same.kept (d := w.heap.size) (fun k hk _ => set_block k hk) S1.out (by decide))).rus
  · exact FA1.out.far S1.out (noStr4 _ _ _ _ _ _) (fun k hk _ => set_block k hk)
  · exact (((B1.out.setCell (Nat.le_refl _) _).setCell (Nat.le_refl _) _).setCell (Nat.le_refl _) _).setCell (Nat.le_refl _) _
end Go.Proofs.YtmmdlgjmplddiaaGreat

namespace Go.Proofs.YtmmdlgjmplddiaaGreat
open Go.RowKit Go.Deep

theorem cellsU8b : Tryz.prog.cellsOf 5 = 1 := by kernel_rfl
theorem wfU8b {a : Int} (h : (Lit.int .u8 a).wf = true) : 0 ≤ a ∧ a < 256 := by
  have h0 : IntKind.u8.min = 0 := rfl
  have h1 : IntKind.u8.max = 255 := rfl
  simp [Lit.wf] at h
  omega
section
variable {H : Type} {enc : TypeId × Value → H} {w : World} {base : Nat} {spare : Nat → Bool} {held : Bool}
theorem rd_bytes {n : Nat} {cs : List Value} {x : DataW H × List MemPlace} (h : DataW.trod enc Tryz.prog w base spare held n 22 cs = some x) : ∃ a k c, cs = [.slice a k c] ∧ ByA w a k := by
  obtain ⟨a, c, vs, e, hR, _, _, hu⟩ := rd_rows (R := fun _ r (u : Nat) => r = [.int .u8 (u : Int)]) (Ok := fun u => u < 256) (0 : Nat) 22 5 5 1 Tryz.underlying22 cellsU8b (by omega) (fun n cs x h hc => by
    match cs, hc with
    | [v0], _ =>
      obtain ⟨k, e0, _, wf0⟩ := DataW.trod_int Tryz.underlying5 h
      obtain ⟨h1, h2⟩ := wfU8b wf0
      refine ⟨k.toNat, ?_, by omega⟩
      rw [e0, Int.toNat_of_nonneg h1]) h
  refine ⟨a, vs.length, c, e, fun j hj => ?_⟩
  obtain ⟨b, o, r, e1, _, _, hc, hr⟩ := hR j vs[j] (by simp [hj])
  have h0 := hc 0 _ (by rw [hr]; rfl)
  refine ⟨b, o, vs[j], e1, ?_, hu _ (List.getElem_mem hj), ?_⟩
  · exact World.block_lt_of_cell? w ⟨b, _, none⟩ h0
  · simpa using h0
end
end Go.Proofs.YtmmdlgjmplddiaaGreat

namespace Go.Proofs.YtmmdlgjmplddiaaGreat
open Go.RowKit
attribute [local go_sem ↓] Go.wp_at_zero Go.wp_at_succ
end Go.Proofs.YtmmdlgjmplddiaaGreat

namespace Go.Proofs.YtmmdlgjmplddiaaGreat
open Go.RowKit
attribute [local go_sem ↓] Go.wp_at_zero Go.wp_at_succ

end Go.Proofs.YtmmdlgjmplddiaaGreat

namespace Go.Proofs.YtmmdlgjmplddiaaGreat
open Go.RowKit
attribute [local go_sem ↓] Go.wp_at_zero Go.wp_at_succ

def Il.R (q : Option Nat) (w : World) (r : List Value) (xs : List Int) : Prop := ∃ a c, r = [.slice a xs.length c] ∧ IntsAt q w a xs
abbrev IlsAt (q : Option Nat) (w : World) (a : Option Addr) (xss : List (List Int)) : Prop := RowsAt (Il.R q) q 39 1 w a xss
theorem IlsAt.below {q : Option Nat} {w w' : World} {a : Option Addr} {xs : List (List Int)} (h : IlsAt q w a xs) (hb : Below w.heap.size w w') : IlsAt q w' a xs := RowsAt.below h (fun _ _ _ ⟨a, c, e, h⟩ => ⟨a, c, e, h.below hb⟩) hb
theorem IlsAt.bare {q : Option Nat} {w : World} {a : Option Addr} {xs : List (List Int)} (h : IlsAt q w a xs) : IlsAt none w a xs := RowsAt.weak h (fun b _ => Qb.bare _ _ b) (fun _ _ _ ⟨a, c, e, h⟩ => ⟨a, c, e, h.bare⟩)
theorem IlsAt.get {q : Option Nat} {w : World} {a : Option Addr} {xss : List (List Int)} {i : Nat} {xs : List Int} (h : IlsAt q w a xss) (hi : xss[i]? = some xs) : ∃ b o a' c', a = some ⟨b, o, none⟩ ∧ Qb q w 39 b ∧ w.cell? ⟨b, o + i, none⟩ = some (.slice a' xs.length c') ∧ IntsAt q w a' xs := by
  obtain ⟨b, o, r, h1, h2, h3, h4, h5⟩ := h i xs hi
  obtain ⟨a', c', rfl, h6⟩ := h5
  exact ⟨b, o, a', c', h1, h2, by simpa using h4 0 _ rfl, h6⟩
def Il.le (N : Nat) (xs : List Int) : Prop := xs.length ≤ N
end Go.Proofs.YtmmdlgjmplddiaaGreat

namespace Go.Proofs.YtmmdlgjmplddiaaGreat
open Go.RowKit
attribute [local go_sem ↓] Go.wp_at_zero Go.wp_at_succ

end Go.Proofs.YtmmdlgjmplddiaaGreat

namespace Go.Proofs.YtmmdlgjmplddiaaGreat
open Go.RowKit
attribute [local go_sem ↓] Go.wp_at_zero Go.wp_at_succ

end Go.Proofs.YtmmdlgjmplddiaaGreat

namespace Go.Proofs.YtmmdlgjmplddiaaGreat
open Go.RowKit
attribute [local go_sem ↓] Go.wp_at_zero Go.wp_at_succ

structure Nt where
  als : List Al
  of : List (List Int)
def Nt.R (q : Option Nat) (w : World) (r : List Value) (x : Nt) : Prop := ∃ a_als c_als a_of c_of, r = [.slice a_als x.als.length c_als, .slice a_of x.of.length c_of] ∧ AlsAt q w a_als x.als ∧ IlsAt q w a_of x.of
abbrev NtsAt (q : Option Nat) (w : World) (a : Option Addr) (xs : List Nt) : Prop := RowsAt (Nt.R q) q 51 2 w a xs
theorem NtsAt.below {q : Option Nat} {w w' : World} {a : Option Addr} {xs : List Nt} (h : NtsAt q w a xs) (hb : Below w.heap.size w w') : NtsAt q w' a xs := RowsAt.below h (fun _ _ _ ⟨a_als, c_als, a_of, c_of, e, h_als, h_of⟩ => ⟨a_als, c_als, a_of, c_of, e, h_als.below hb, h_of.below hb⟩) hb
theorem NtsAt.bare {q : Option Nat} {w : World} {a : Option Addr} {xs : List Nt} (h : NtsAt q w a xs) : NtsAt none w a xs := RowsAt.weak h (fun b _ => Qb.bare _ _ b) (fun _ _ _ ⟨a_als, c_als, a_of, c_of, e, h_als, h_of⟩ => ⟨a_als, c_als, a_of, c_of, e, h_als.bare, h_of.bare⟩)
theorem NtsAt.get {q : Option Nat} {w : World} {a : Option Addr} {xs : List Nt} {i : Nat} {x : Nt} (h : NtsAt q w a xs) (hi : xs[i]? = some x) : ∃ b o a_als c_als a_of c_of, a = some ⟨b, o, none⟩ ∧ Qb q w 51 b ∧ w.cell? ⟨b, o + i * 2, none⟩ = some (.slice a_als x.als.length c_als) ∧ w.cell? ⟨b, o + i * 2 + 1, none⟩ = some (.slice a_of x.of.length c_of) ∧ AlsAt q w a_als x.als ∧ IlsAt q w a_of x.of := by
  obtain ⟨b, o, r, h1, h2, h3, h4, h5⟩ := h i x hi
  obtain ⟨a_als, c_als, a_of, c_of, rfl, h_als, h_of⟩ := h5
  exact ⟨b, o, a_als, c_als, a_of, c_of, h1, h2, h4 0 _ rfl, h4 1 _ rfl, h_als, h_of⟩
def Nt.le (N : Nat) (x : Nt) : Prop := ListLe Al.le N x.als ∧ ListLe Il.le N x.of
end Go.Proofs.YtmmdlgjmplddiaaGreat

namespace Go.Proofs.YtmmdlgjmplddiaaGreat
open Go.RowKit

def alCells (x : AlX) : List Value := [.string x.1.cls, .int .i64 x.1.arity, x.2]
/-- Alphas that were made: an owned row. -/
def AO (w : World) (base : Nat) (a : Option Addr) (c : Nat) (L : List AlX) : Prop := w.ownsRow base 57 3 (.slice a L.length c) L.length (L.flatMap alCells) ∧ ∀ x ∈ L, AlP w base x
theorem AO.nil (w : World) (base : Nat) : AO w base none 0 [] := ⟨World.ownsRow_nil _ _ _ _, fun x hx => by simp at hx⟩
theorem AO.bel {w w' : World} {base : Nat} {a : Option Addr} {c : Nat} {L : List AlX} (h : AO w base a c L) (hb : Below w.heap.size w w') : AO w' base a c L := ⟨own_bel h.1 hb, fun x hx => (h.2 x hx).bel hb⟩
theorem AO.set {w : World} {base b o : Nat} {t : TypeId} {a : Option Addr} {c' : Nat} {L : List AlX} {v : Value} {c : Array Value} {fr : Nat × Nat} (h : AO w base a c' L) (hb : w.heap[b]? = some (.cells c t fr)) (h1 : t ≠ 111) (h2 : t ≠ 57) : AO (w.setCell ⟨b, o, none⟩ v) base a c' L := ⟨own_set h.1 hb h2, fun x hx => ⟨(h.2 x hx).1, own_set (h.2 x hx).2 hb h1⟩⟩
theorem AO.snoc {w w' : World} {base : Nat} {a a' : Option Addr} {c c' : Nat} {L : List AlX} {x : AlX} (h : AO w base a c L) (hx : AlP w base x) (ho : w'.ownsRow base 57 3 (.slice a' (L.length + 1) c') (L.length + 1) (L.flatMap alCells ++ alCells x)) (hg : w.grownBy w' (Value.slice a L.length c).ownBlock) : AO w' base a' c' (L ++ [x]) := by
  refine ⟨by simpa using ho, fun y hy => ?_⟩
  have hy' : AlP w base y := by
    rcases List.mem_append.1 hy with hy | hy
    · exact h.2 y hy
    · simp at hy
      subst hy
      exact hx
  exact hy'.grown hg (fun k hk => own_type h.1 hk) (by decide)
theorem al_at {w : World} {base : Nat} {a : Option Addr} {c : Nat} {L : List AlX} (h : AO w base a c L) {i : Nat} {x : AlX} (hi : L[i]? = some x) :
    ∃ k, a = some ⟨k, 0, none⟩ ∧ k < w.heap.size ∧ w.cell? ⟨k, i * 3, none⟩ = some (.string x.1.cls) ∧ w.cell? ⟨k, i * 3 + 1, none⟩ = some (.int .i64 x.1.arity) ∧ w.cell? ⟨k, i * 3 + 2, none⟩ = some x.2 := by
  have key := fun j u (hj : (alCells x)[j]? = some u) => owns_cell h.1 (flat_gen (cells := alCells) (m := 3) (fun _ => rfl) L i x j u hi hj)
  obtain ⟨k, rfl, _, h0, _⟩ := key 0 _ rfl
  obtain ⟨k1, e1, _, h1, _⟩ := key 1 _ rfl
  obtain ⟨k2, e2, _, h2, _⟩ := key 2 _ rfl
  cases e1
  cases e2
  exact ⟨k, rfl, World.block_lt_of_cell? w ⟨k, _, none⟩ h0, h0, h1, h2⟩
theorem AO.at {w : World} {base : Nat} {a : Option Addr} {c : Nat} {L : List AlX} (h : AO w base a c L) : AlsAt none w a (L.map Prod.fst) := by
  intro i x hi
  rw [List.getElem?_map] at hi
  obtain ⟨y, hy, rfl⟩ := Option.map_eq_some_iff.1 hi
  obtain ⟨k, e, _, h0, h1, h2⟩ := al_at h hy
  obtain ⟨⟨at', ct, hs⟩, ho⟩ := h.2 y (List.mem_of_getElem? hy)
  rw [hs] at h2 ho
  refine ⟨k, 0, [.string y.1.cls, .int .i64 y.1.arity, .slice at' y.1.tests.length ct], e, Qb.bare _ _ _, rfl, ?_, at', ct, rfl, TtsAt.owns ho⟩
  intro j v hj
  rcases j with _ | _ | _ | j
  · simp at hj
    subst hj
    simpa using h0
  · simp at hj
    subst hj
    simpa using h1
  · simp at hj
    subst hj
    simpa using h2
  · simp at hj
/-- A Net in its box. -/
def NB (w : World) (b : Nat) (v0 v1 : Value) : Prop := w.heap[b]? = some (.cells #[v0, v1] 51 (0, 0))
theorem NB.facts {w : World} {b : Nat} {v0 v1 : Value} (h : NB w b v0 v1) : (w.cell? ⟨b, 0, none⟩ = some v0 ∧ w.cell? ⟨b, 1, none⟩ = some v1) ∧ (∀ j, w.frozen? ⟨b, j, none⟩ = false) ∧ b < w.heap.size := by
  unfold NB at h
  refine ⟨⟨?_, ?_⟩, fun j => ?_, lt_of_block' h⟩ <;> simp [World.cell?, World.frozen?, h]
theorem NB.bel {w w' : World} {b : Nat} {v0 v1 : Value} (h : NB w b v0 v1) (hb : Below w.heap.size w w') : NB w' b v0 v1 := (hb.block b (lt_of_block' h)).trans h
theorem NB.grown {w w' : World} {b : Nat} {t : TypeId} {v0 v1 : Value} {row : Option Nat} (h : NB w b v0 v1) (hg : w.grownBy w' row) (ht : ∀ k, row = some k → ∃ c, w.heap[k]? = some (.cells c t (0, 0))) (h1 : t ≠ 51) : NB w' b v0 v1 := box_grown h hg ht h1
theorem NB.set0 {w : World} {b : Nat} {v0 v1 : Value} (h : NB w b v0 v1) (x : Value) : NB (w.setCell ⟨b, 0, none⟩ x) b x v1 := by
  have := heap_setCell_same (i := 0) h x
  simpa [NB] using this
theorem NB.set1 {w : World} {b : Nat} {v0 v1 : Value} (h : NB w b v0 v1) (x : Value) : NB (w.setCell ⟨b, 1, none⟩ x) b v0 x := by
  have := heap_setCell_same (i := 1) h x
  simpa [NB] using this
theorem NB.far {w : World} {b d j : Nat} {v0 v1 x : Value} (h : NB w b v0 v1) (hne : b ≠ d) : NB (w.setCell ⟨d, j, none⟩ x) b v0 v1 := (Below.heap_setCell w ⟨d, j, none⟩ x b hne).trans h
theorem OLL.inType {w : World} {base : Nat} {v : Value} {n : Nat} {xss : List (List Int)} {vs : List Value} (h : OLL w base v n xss vs) {g : Nat} (hg : InLL v vs g) : (∃ c, w.heap[g]? = some (.cells c 39 (0, 0))) ∨ ∃ c, w.heap[g]? = some (.cells c 3 (0, 0)) := by
  rcases hg with hg | ⟨x, hx, hg⟩
  · exact .inl (own_type h.own hg)
  · obtain ⟨xs, _, ho⟩ := h.each' hx
    exact .inr (own_type ho hg)
theorem OLL.grownT {w w' : World} {base : Nat} {t : TypeId} {v : Value} {n : Nat} {xss : List (List Int)} {vs : List Value} {row : Option Nat} (h : OLL w base v n xss vs) (hg : w.grownBy w' row) (ht : ∀ k, row = some k → ∃ c, w.heap[k]? = some (.cells c t (0, 0))) (h1 : t ≠ 39) (h2 : t ≠ 3) : OLL w' base v n xss vs :=
  h.kept fun g hgi => hg.block g (h.range hgi).2 (fun e => by
    obtain ⟨c, hc⟩ := ht g e.symm
    rcases h.inType hgi with ⟨c', hc'⟩ | ⟨c', hc'⟩
    · exact own_far hc hc' h1
    · exact own_far hc hc' h2)
theorem OLL.grownHi {w w' : World} {base W : Nat} {v : Value} {n : Nat} {xss : List (List Int)} {vs : List Value} {row : Option Nat} (h : OLL w base v n xss vs) (hg : w.grownBy w' row) (hr : ∀ k, row = some k → W ≤ k) (hlow : ∀ g, InLL v vs g → g < W) : OLL w' base v n xss vs :=
  h.kept fun g hgi => hg.block g (h.range hgi).2 (fun e => by
    have h1 := hr g e.symm
    have h2 := hlow g hgi
    omega)
theorem OLL.setT {w : World} {base b o : Nat} {t : TypeId} {v : Value} {n : Nat} {xss : List (List Int)} {vs : List Value} {x : Value} {c : Array Value} {fr : Nat × Nat} (h : OLL w base v n xss vs) (hb : w.heap[b]? = some (.cells c t fr)) (h1 : t ≠ 39) (h2 : t ≠ 3) : OLL (w.setCell ⟨b, o, none⟩ x) base v n xss vs :=
  h.kept fun g hgi => Below.heap_setCell _ _ _ _ (fun e => by
    have e' : g = b := e
    subst e'
    rcases h.inType hgi with ⟨c', hc'⟩ | ⟨c', hc'⟩
    · exact own_far hb hc' h1
    · exact own_far hb hc' h2)
theorem infoAlF : (Tryz.prog.info? 57).map (fun i => (i.zero, i.size, i.bytes)) = some (some (.agg #[.string ⟨#[]⟩, .int .i64 0, .slice none 0 0]), 3, 48) := by kernel_rfl
theorem infoIF : (Tryz.prog.info? 3).map (fun i => (i.zero, i.size, i.bytes)) = some (some (.int .i64 0), 1, 8) := by kernel_rfl
theorem infoILF : (Tryz.prog.info? 39).map (fun i => (i.zero, i.size, i.bytes)) = some (some (.slice none 0 0), 1, 24) := by kernel_rfl
end Go.Proofs.YtmmdlgjmplddiaaGreat

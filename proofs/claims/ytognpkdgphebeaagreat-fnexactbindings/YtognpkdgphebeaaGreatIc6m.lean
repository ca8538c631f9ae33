/-
  OUR OWN TEXT. The program's side of the checker: the spans of all exprs.
-/
import Derived.Test.YtognpkdgphebeaaGreatJe
import Derived.Test.YtognpkdgphebeaaGreatJf
namespace Go.Proofs.YtognpkdgphebeaaGreat
open Go.RowKit
attribute [local go_sem ↓] Go.wp_at_zero Go.wp_at_succ

theorem hideIt {p : Prop} (h : p) : Hid p := h

set_option maxHeartbeats 800000 in
theorem exprSpan_any (e : Ex) (a : Option Addr) (c : Nat) (S : List Sp) {q : Option Nat} (w : World) (hv : SpsAt q w a S) (hl : S.length ≤ 60) (hs : e.le maxLen) (ho0 : 0 ≤ e.op) (ho1 : e.op < 256) (hd : ∀ (i : Nat) (s : Sp), S[i]? = some s → s.1 ≤ i ∧ s.2 ≤ 20) :
    Calls Tryz.prog 160 #[.agg #[.int .i64 e.kind, .int .u8 e.op, .string e.var, .int .i64 e.val.kind, .int .i64 e.val.num, .string e.val.sym, .int .i64 e.a, .int .i64 e.b], .slice a S.length c] w fun r w' =>
      (∃ f d : Int, r = .returned (.tuple #[.agg #[.int .i64 f, .int .i64 d], .bool (spanOf S e).isSome]) ∧ ∀ s, spanOf S e = some s → f = (s.1 : Int) ∧ d = (s.2 : Int)) ∧ Below w.heap.size w w' := by
  by_cases k0 : e.kind = 0
  · have hs0 : spanOf S e = if leafOk e && (isE e.var && gVal e.val) then some (S.length, 0) else none := by simp [spanOf, k0]
    refine (exprSpan_0 e a c S w hs k0).mono ?_
    rintro r w' ⟨rfl, hb⟩
    rw [hs0]
    refine ⟨⟨S.length, 0, ?_, ?_⟩, hb⟩
    · cases leafOk e && (isE e.var && gVal e.val) <;> rfl
    · intro s h
      split at h
      · injection h with h
        rw [← h]
        exact ⟨rfl, rfl⟩
      · cases h
  by_cases k1 : e.kind = 1
  · have hs0 : spanOf S e = if leafOk e && (gSym e.var.data.toList && zeroV e.val) then some (S.length, 0) else none := by simp [spanOf, k1]
    refine (exprSpan_1 e a c S w hs k1).mono ?_
    rintro r w' ⟨rfl, hb⟩
    rw [hs0]
    refine ⟨⟨S.length, 0, ?_, ?_⟩, hb⟩
    · cases leafOk e && (gSym e.var.data.toList && zeroV e.val) <;> rfl
    · intro s h
      split at h
      · injection h with h
        rw [← h]
        exact ⟨rfl, rfl⟩
      · cases h
  have B3 : ∀ o o1 o2, Below w.heap.size w (((w.alloc o).alloc o1).alloc o2) := fun o o1 o2 => (((Below.refl _ _).alloc (Nat.le_refl _) _).alloc (by simp) _).alloc (by simp; omega) _
  by_cases k2 : e.kind = 2
  · have hsp := fun w h => spanOfParts_any e a c S (q := q) w h hl k2 ho0 ho1 hd
    simp only [k2] at hsp
    have HP := hideIt hsp
    clear hsp
    go_enter Tryz.func160, Tryz.ntmps160
    go_wp2_with (go_at_call 165; refine (HP.out _ (hv.below (B3 _ _ _))).mono ?_; rintro e' w' ⟨⟨f, d, rfl, hfd⟩, hb'⟩; have y0 : w'.cell? ⟨w.heap.size + 1, 0, none⟩ = some (.int .i64 0) := cell_below hb' (by simp [go_sem]); have y1 : w'.cell? ⟨w.heap.size + 1, 1, none⟩ = some (.int .i64 0) := cell_below hb' (by simp [go_sem]); have yf0 : w'.frozen? ⟨w.heap.size + 1, 0, none⟩ = false := (by rw [(bcell hb').2 _ _ (by simp)]; simp [go_sem]); have yf1 : w'.frozen? ⟨w.heap.size + 1, 1, none⟩ = false := (by rw [(bcell hb').2 _ _ (by simp)]; simp [go_sem]))
    have hB' : Below w.heap.size w w' := (B3 _ _ _).trans (hb'.mono (by simp; omega))
    refine bodyPost_ret (v := .tuple #[.agg #[.int .i64 f, .int .i64 d], .bool (spanOf S e).isSome]) (by simp [results, Tryz.results160, go_sem, y0, y1]) rfl ⟨⟨f, d, rfl, hfd⟩, (hB'.setCell (by simp) _).setCell (by simp) _⟩
  · have HN : Hid (spanOf S e = none) := show spanOf S e = none from by simp [spanOf, k0, k1, k2]
    go_enter Tryz.func160, Tryz.ntmps160
    go_wp2
    refine bodyPost_ret (v := .tuple #[.agg #[.int .i64 0, .int .i64 0], .bool false]) (by simp [results, Tryz.results160, go_sem]) rfl ⟨⟨0, 0, by rw [HN.out]; rfl, fun s h => (by rw [HN.out] at h; cases h)⟩, B3 _ _ _⟩

def spCells (s : Sp) : List Value := [.int .i64 (s.1 : Int), .int .i64 (s.2 : Int)]
theorem spFlat_at : ∀ (S : List Sp) (i : Nat) (s : Sp), S[i]? = some s → (S.flatMap spCells)[i * 2]? = some (.int .i64 (s.1 : Int)) ∧ (S.flatMap spCells)[i * 2 + 1]? = some (.int .i64 (s.2 : Int))
  | [], i, s, h => by simp at h
  | x :: r, 0, s, h => by
    simp at h
    subst h
    exact ⟨rfl, rfl⟩
  | x :: r, i + 1, s, h => by
    have := spFlat_at r i s (by simpa using h)
    rw [List.flatMap_cons]
    refine ⟨?_, ?_⟩
    · rw [List.getElem?_append_right (by simp [spCells]; omega), show (i + 1) * 2 - (spCells x).length = i * 2 by simp [spCells]; omega]
      exact this.1
    · rw [List.getElem?_append_right (by simp [spCells]; omega), show (i + 1) * 2 + 1 - (spCells x).length = i * 2 + 1 by simp [spCells]; omega]
      exact this.2
theorem SpsAt.owns {w : World} {base n : Nat} {a : Option Addr} {c : Nat} {S : List Sp} (h : w.ownsRow base 257 2 (.slice a n c) n (S.flatMap spCells)) : SpsAt none w a S := by
  intro i s hs
  obtain ⟨k0, k1⟩ := spFlat_at S i s hs
  obtain ⟨g, rfl, _, h0, _⟩ := owns_cell h k0
  obtain ⟨g1, he1, _, h1, _⟩ := owns_cell h k1
  cases he1
  refine ⟨g, 0, [.int .i64 (s.1 : Int), .int .i64 (s.2 : Int)], rfl, Qb.bare _ _ _, rfl, ?_, rfl⟩
  intro j v hj
  rw [Nat.zero_add]
  match j, hj with
  | 0, hj => simp at hj; subst hj; exact h0
  | 1, hj => simp at hj; subst hj; exact h1
theorem infoSp : (Tryz.prog.info? 257).map (fun i => (i.zero, i.size, i.bytes)) = some (some (.agg #[.int .i64 0, .int .i64 0]), 2, 16) := by kernel_rfl
theorem news_alloc' (w : World) (L : List Value) (t : TypeId) (ad : Addr) (e : some (⟨w.heap.size, 0, none⟩ : Addr) = some ad) (j : Nat) (u : Value) (h : L[j]? = some u) : (w.alloc (.cells L.toArray t)).cell? (ad.add j) = some u := by
  cases e
  rw [Addr.add_mid, Nat.zero_add]
  have hb := heap_alloc_new w (.cells L.toArray t)
  simp only [World.cell?, hb]
  simpa using h
theorem news_alloc2 (w : World) (L : List Value) (t : TypeId) (b : Nat) (hb : b = w.heap.size) (ad : Addr) (e : some (⟨b, 0, none⟩ : Addr) = some ad) (j : Nat) (u : Value) (h : L[j]? = some u) : (w.alloc (.cells L.toArray t)).cell? (ad.add j) = some u := by
  subst hb
  exact news_alloc' w L t ad e j u h
theorem ownsBelow {w w' : World} {base : Nat} {e : TypeId} {size : Nat} {v : Value} {n : Nat} {xs : List Value} (h : w.ownsRow base e size v n xs) (hb : Below w.heap.size w w') : w'.ownsRow base e size v n xs :=
  owns_of_block h (fun g hg => hb.block g (h.lt g hg).2)
theorem spCells_one (s : Sp) : ∀ u ∈ spCells s, u.oneCell' = true := by
  intro u hu
  simp [spCells] at hu
  rcases hu with rfl | rfl <;> rfl

/-- Each op is a byte. -/
def OpsOk (es : List Ex) : Prop := ∀ e ∈ es, 0 ≤ e.op ∧ e.op < 256

set_option maxHeartbeats 1600000 in
theorem spans_any (x : Ru) (a_pats : Option Addr) (c_pats : Nat) (a_exprs : Option Addr) (c_exprs : Nat) (a_acts : Option Addr) (c_acts : Nat) {q : Option Nat} (w : World) (h_exprs : ExsAt q w a_exprs x.exprs) (hl : x.exprs.length ≤ 60) (hs : ListLe Ex.le maxLen x.exprs) (ho : OpsOk x.exprs) :
    Calls Tryz.prog 145 #[.agg #[.string x.name, .int .i64 x.sal, .slice a_pats x.pats.length c_pats, .slice a_exprs x.exprs.length c_exprs, .slice a_acts x.acts.length c_acts]] w fun e w' =>
      (∃ a c, e = .returned (.tuple #[.slice a (spansGo [] x.exprs).length c, .bool (decide ((spansGo [] x.exprs).length = x.exprs.length))]) ∧ SpsAt none w' a (spansGo [] x.exprs)) ∧ Below w.heap.size w w' := by
  go_enter Tryz.func145, Tryz.ntmps145
  go_wp2
  go_loopw [4, 12] (fun v i wr => ∃ (S : List Sp) (a : Option Addr) (c : Nat), S.length ≤ x.exprs.length ∧ i = .int .i64 (S.length : Int) ∧ v = .slice a S.length c ∧ Spans x.exprs S ∧ spansGo [] x.exprs = spansGo S (x.exprs.drop S.length) ∧ wr.ownsRow w.heap.size 257 2 (.slice a S.length c) S.length (S.flatMap spCells) ∧ Below w.heap.size w wr) (fun _ i _ => x.exprs.length - (intOf i).toNat)
  case atStart => exact ⟨[], none, 0, by simp, rfl, rfl, Spans.nil _, rfl, World.ownsRow_nil _ _ _ _, (Below.refl _ _).alloc (Nat.le_refl _) _⟩
  case round =>
    obtain ⟨S, a, c, hk, rfl, rfl, hS, hG, hown, hb⟩ := hrel
    have HG : Hid (spansGo [] x.exprs = spansGo S (x.exprs.drop S.length)) := hG
    have HO := hideIt hown
    clear hG hown
    by_cases hkl : S.length < x.exprs.length
    · obtain ⟨e, hek⟩ : ∃ e, x.exprs[S.length]? = some e := ⟨x.exprs[S.length], by simp [hkl]⟩
      obtain ⟨b, o, rfl, hq, c0, c1, c2, c3, c4, c5, c6, c7⟩ := (h_exprs.below hb).get hek
      have HD : Hid (x.exprs.drop S.length = e :: x.exprs.drop (S.length + 1)) := drop_cons hek
      have hse := hs.2 e (List.mem_of_getElem? hek)
      obtain ⟨ho0, ho1⟩ := ho e (List.mem_of_getElem? hek)
      have hd : Hid (∀ (i : Nat) (s : Sp), S[i]? = some s → s.1 ≤ i ∧ s.2 ≤ 20) := show ∀ (i : Nat) (s : Sp), S[i]? = some s → s.1 ≤ i ∧ s.2 ≤ 20 from fun i s h => ⟨hS.first_le i s h, hS.depth_le i s h⟩
      have HS := hideIt hS
      clear hS
      have B1 : ∀ o, Below wr.heap.size wr (wr.alloc o) := fun o => (Below.refl _ _).alloc (Nat.le_refl _) _
      cases hsp : spanOf S e with
      | none =>
        have HN : Hid (spansGo [] x.exprs = S) := show spansGo [] x.exprs = S from by rw [HG.out, HD.out, spansGo, hsp]
        go_wp2_with (go_at_call 160; refine (exprSpan_any e a c S _ ((SpsAt.owns HO.out).below (B1 _)) (by omega) hse ho0 ho1 hd.out).mono ?_; rintro e' w1 ⟨⟨f, d, rfl, hfd⟩, hb1⟩)
        have hW1 : Below wr.heap.size wr w1 := (B1 _).trans (hb1.mono (by simp))
        have hW2 : Below w.heap.size w w1 := hb.trans (hW1.mono hb.size)
        refine bodyPost_ret (v := .tuple #[.slice a S.length c, .bool false]) (by simp [results, Tryz.results145, go_sem]) rfl ⟨⟨a, c, by rw [HN.out, decide_eq_false (by omega)], ?_⟩, hW2.alloc hW2.size _⟩
        rw [HN.out]
        exact ((SpsAt.owns HO.out).below hW1).below ((Below.refl _ _).alloc (Nat.le_refl _) _)
      | some s =>
        have HN : Hid (spansGo [] x.exprs = spansGo (S ++ [s]) (x.exprs.drop (S.length + 1))) := show spansGo [] x.exprs = _ from by rw [HG.out, HD.out, spansGo, hsp]
        go_wp2_with (first | (go_at_call 160; refine (exprSpan_any e a c S _ ((SpsAt.owns HO.out).below (B1 _)) (by omega) hse ho0 ho1 hd.out).mono ?_; rintro e' w1 ⟨⟨f, d, rfl, hfd⟩, hb1⟩; obtain ⟨rfl, rfl⟩ := hfd s hsp; have hW1 : Below wr.heap.size wr w1 := (B1 _).trans (hb1.mono (by simp)); have ho1 := hideIt (ownsBelow HO.out hW1)) | (at_builtin; refine wpList_append_any (by rfl) (.tmp 25) (.tmp 27) 244 (by rfl) w.heap.size 257 _ 2 16 Tryz.underlying244 infoSp (by rfl) (by omega) _ S.length _ (by rfl) ((ho1.out.alloc _).alloc _) (some ⟨w1.heap.size + 1, 0, none⟩) 1 1 (by rfl) (spCells s) (by rfl) (fun e => by cases e) (news_alloc2 _ _ _ _ (by simp)) (spCells_one s) (by unfold maxLen; omega) (by omega) (by have h1 := hb.size; have h2 := hW1.size; simp; omega) ?_; intro a2 c2' w2 ho2 hg2 hl2))
        have hW2 : Below w.heap.size w w1 := hb.trans (hW1.mono hb.size)
        have hsz := hW2.size
        go_roundw
        case rel =>
          refine ⟨S ++ [s], a2, c2', by simp; omega, by simp, by simp, HS.out.snoc hek hsp, ?_, ?_, ?_⟩
          · rw [HN.out]
            simp
          · have := ho2.out
            rw [List.flatMap_append]
            simpa [spCells] using this
          · exact ((hW2.alloc hsz _).alloc (by simp; omega) _).grown hg2.out (by simp; omega) (fun j hj => (ho1.out.lt j hj).1)
        case measure => simp [intOf]; omega
    · go_wp2
      have HN : Hid (spansGo [] x.exprs = S) := show spansGo [] x.exprs = S from by
        rw [HG.out, List.drop_eq_nil_of_le (by omega)]
        rfl
      refine bodyPost_ret (v := .tuple #[.slice a S.length c, .bool true]) (by simp [results, Tryz.results145, go_sem]) rfl ⟨⟨a, c, by rw [HN.out, decide_eq_true (by omega)], ?_⟩, hb⟩
      rw [HN.out]
      exact SpsAt.owns HO.out
end Go.Proofs.YtognpkdgphebeaaGreat

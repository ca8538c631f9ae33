/-
  OUR OWN TEXT. Sc6a, Sc6, one behind the other.
-/
import Derived.Test.YtgamdkokmkagaaaGreatJh
import Derived.Test.YtgamdkokmkagaaaGreatJl
import Derived.Deep.DrawnRows
import Derived.BigQuiet
namespace Go.Proofs.YtgamdkokmkagaaaGreat
open Go.RowKit

theorem StrsAt.owns {w : World} {base n : Nat} {a : Option Addr} {c : Nat} {xs : List ByteArray} (h : w.ownsRow base 9 1 (.slice a n c) n (xs.map Value.string)) : StrsAt none w a xs := by
  intro i s hs
  have k0 : (xs.map Value.string)[i]? = some (.string s) := by simp [hs]
  obtain ⟨g, rfl, _, h0, _⟩ := owns_cell h k0
  refine ⟨g, 0, [.string s], rfl, Qb.bare _ _ _, rfl, ?_, rfl⟩
  intro j v hj
  have hj0 : j = 0 := by
    have := (List.getElem?_eq_some_iff.1 hj).1
    simp at this
    exact this
  subst hj0
  simp at hj
  subst hj
  simpa using h0
theorem owns_none {w : World} {base n : Nat} {a : Option Addr} {c : Nat} {xs : List ByteArray} (h : w.ownsRow base 9 1 (.slice a n c) n (xs.map Value.string)) (ha : a = none) : xs.length = 0 := by
  cases xs with
  | nil => rfl
  | cons x r =>
    obtain ⟨g, hg, _⟩ := owns_cell h (j := 0) (x := .string x) (by simp)
    rw [ha] at hg
    cases hg
theorem infoStr : (Tryz.prog.info? 9).map (fun i => (i.zero, i.size, i.bytes)) = some (some (.string ByteArray.empty), 1, 16) := by kernel_rfl
theorem strs_one (xs : List ByteArray) : ∀ u ∈ xs.map Value.string, u.oneCell' = true := by
  intro u hu
  obtain ⟨s, _, rfl⟩ := List.mem_map.1 hu
  rfl
theorem strs_news {w : World} {q : Option Nat} {a : Option Addr} {xs : List ByteArray} (h : StrsAt q w a xs) : ∀ ad, a = some ad → ∀ (j : Nat) u, (xs.map Value.string)[j]? = some u → w.cell? (ad.add j) = some u := by
  intro ad hd j u hu
  rw [List.getElem?_map] at hu
  cases hx : xs[j]? with
  | none => rw [hx] at hu; cases hu
  | some s =>
    rw [hx] at hu
    simp at hu
    subst hu
    obtain ⟨b, o, rfl, _, hc⟩ := h.get hx
    cases hd
    rw [Addr.add_mid]
    exact hc

theorem shape_acts {x : Ru} (h : shape x = none) : actsGo (spansGo [] x.exprs) x.acts 0 1 = none := by
  unfold shape at h
  split at h
  · split at h
    · cases h
    · split at h
      · cases h
      · exact h
  · cases h
theorem gAc_args {S : List Sp} {y : Ac} {nx n : Nat} (h : gAc S y nx = some n) : argsGo S y.args nx = some n := by
  unfold gAc at h
  split at h
  · exact h
  · cases h
theorem argsGo_one {S : List Sp} {x : Int} {r : List Int} {nx n : Nat} (h : argsGo S (x :: r) nx = some n) : ∃ (x0 : Nat) (s0 : Sp), x = (x0 : Int) ∧ S[x0]? = some s0 ∧ s0.1 = nx ∧ argsGo S r (x0 + 1) = some n := by
  rw [argsGo_cons] at h
  split at h
  · rename_i hc
    simp only [Bool.and_eq_true, decide_eq_true_eq] at hc
    obtain ⟨h0, h1, h2⟩ := hc
    obtain ⟨x0, rfl⟩ := Int.eq_ofNat_of_zero_le h0
    have hx : x0 < S.length := by omega
    refine ⟨x0, S[x0], rfl, by simp, ?_, h⟩
    simpa [hx] using h2
  · cases h
theorem argsGo_le {es : List Ex} {S : List Sp} (hS : Spans es S) : ∀ {l : List Int} {nx n : Nat}, argsGo S l nx = some n → nx ≤ n
  | [], nx, n, h => by
    have : some nx = some n := h
    injection this with this
    omega
  | x :: r, nx, n, h => by
    obtain ⟨x0, s0, rfl, hs, rfl, hr⟩ := argsGo_one h
    have h1 := argsGo_le hS hr
    have h2 := hS.first_le x0 s0 hs
    omega
theorem argsGo_last {S : List Sp} : ∀ {l : List Int} {nx n : Nat}, l ≠ [] → argsGo S l nx = some n → ∃ xl : Nat, l.getLast? = some (xl : Int) ∧ n = xl + 1 ∧ xl < S.length
  | [], _, _, h, _ => absurd rfl h
  | x :: r, nx, n, _, h => by
    obtain ⟨x0, s0, rfl, hs, rfl, hr⟩ := argsGo_one h
    cases r with
    | nil =>
      have : some (x0 + 1) = some n := hr
      injection this with this
      exact ⟨x0, rfl, this.symm, (List.getElem?_eq_some_iff.1 hs).1⟩
    | cons y r' =>
      obtain ⟨xl, h1, h2, h3⟩ := argsGo_last (l := y :: r') (by simp) hr
      exact ⟨xl, by simpa using h1, h2, h3⟩
theorem all_takeS {α : Type} {f : α → Bool} {l : List α} {j : Nat} {x : α} (h : l[j]? = some x) : (l.take (j + 1)).all f = ((l.take j).all f && f x) := by
  rw [List.take_add_one, h]
  simp
theorem all_take_false {α : Type} {f : α → Bool} {l : List α} {j m : Nat} {x : α} (h : l[j]? = some x) (hj : j < m) (hf : f x = false) : (l.take m).all f = false := by
  rw [List.all_eq_false]
  refine ⟨x, ?_, by simp [hf]⟩
  have : (l.take m)[j]? = some x := by rw [List.getElem?_take, if_pos hj, h]
  exact List.mem_of_getElem? this
theorem actVar_last {es : List Ex} {known : List ByteArray} {y : Ac} {xl : Nat} (h : y.args.getLast? = some (xl : Int)) : actVar es known y = (es.take (xl + 1)).all (knownE known) := by
  have h1 : y.args.isEmpty = false := by
    cases hy : y.args with
    | nil => rw [hy] at h; cases h
    | cons v r => rfl
  have h2 : upTo y = xl + 1 := by
    unfold upTo
    rw [h]
    rfl
  unfold actVar
  rw [h1, h2]
  rfl
/-- An item, -1 for none. -/
def itemM : Option Nat → Int
  | none => -1
  | some i => (i : Int)
end Go.Proofs.YtgamdkokmkagaaaGreat

namespace Go.Proofs.YtgamdkokmkagaaaGreat
open Go.RowKit
attribute [local go_sem ↓] Go.wp_at_zero Go.wp_at_succ

set_option maxHeartbeats 3200000 in
theorem l2Scope_any (x : Ru) (a_pats : Option Addr) (c_pats : Nat) (a_exprs : Option Addr) (c_exprs : Nat) (a_acts : Option Addr) (c_acts : Nat) {q : Option Nat} (w : World) (h_pats : PtsAt q w a_pats x.pats) (h_exprs : ExsAt q w a_exprs x.exprs) (h_acts : AcsAt q w a_acts x.acts) (hle : x.le 1048576) (hsh : shape x = none) :
    Calls Tryz.prog 59 #[.agg #[.string x.name, .int .i64 x.sal, .slice a_pats x.pats.length c_pats, .slice a_exprs x.exprs.length c_exprs, .slice a_acts x.acts.length c_acts]] w fun e w' => e = .returned (.int .i64 (itemM (scope x))) ∧ Below w.heap.size w w' := by
  obtain ⟨hsn0, hsp, hse, hsa⟩ := hle
  obtain ⟨hp6, ha8, he60, hpt, hfull, hargs⟩ := shape_none hsh
  obtain ⟨SS, hSS⟩ : ∃ S, S = spansGo [] x.exprs := ⟨_, rfl⟩
  have hSp : Spans x.exprs SS := by rw [hSS]; exact (spansGo_spans (Spans.nil _) rfl).1
  have hAG : actsGo SS x.acts 0 1 = none := by rw [hSS]; exact shape_acts hsh
  rw [← hSS] at hfull
  have HSP := hideH hSp
  have HAG := hideH hAG
  have HFL := hideH hfull
  have HAR := hideH hargs
  have HPT := hideH hpt
  have HSE := hideH hse
  have HSA := hideH hsa
  have HSPP := hideH hsp
  clear hSS hSp hAG hfull hargs hpt hsh hse hsa hsp
  obtain ⟨HH⟩ : Nonempty (Hid (scope x = match patsGo x.pats [] 1 with | .inl i => some i | .inr known => actsV x known)) := ⟨scope_eq x⟩
  have B0 : ∀ o, Below w.heap.size w (w.alloc o) := fun o => (Below.refl _ _).alloc (Nat.le_refl _) _
  go_enter Tryz.func59, Tryz.ntmps59
  go_wp2
  go_loopw [3, 16] (fun kv i wr => ∃ (k : Nat) (known : List ByteArray) (a : Option Addr) (c : Nat), k ≤ x.pats.length ∧ i = .int .i64 k ∧ kv = .slice a known.length c ∧ patsGo x.pats [] 1 = patsGo (x.pats.drop k) known (k + 1) ∧ known.length ≤ 6 * k ∧ (a = none → known.length = 0) ∧ StrsAt none wr a known ∧ RuBox wr w.heap.size x a_pats c_pats a_exprs c_exprs a_acts c_acts ∧ Below w.heap.size w wr) (fun _ i _ => x.pats.length - (intOf i).toNat)
  case atStart => exact ⟨0, [], none, 0, by omega, rfl, rfl, rfl, by simp, fun _ => rfl, RowsAt.nil, RuBox.made _ _ _ _ _ _ _ _ _, B0 _⟩
  case round =>
    obtain ⟨k, known, a, c, hk, rfl, rfl, hG, hkn, hnil, hst, hbox, hb⟩ := hrel
    have HG := hideH hG
    have HBX := hideH hbox
    have HST := hideH hst
    have HNIL := hideH hnil
    clear hG hst hnil
    have hwl : w.heap.size < wr.heap.size := cell_lt hbox.1
    by_cases hkl : k < x.pats.length
    · obtain ⟨p, hpk⟩ : ∃ p, x.pats[k]? = some p := ⟨x.pats[k], by simp [hkl]⟩
      obtain ⟨b, o, a_terms, c_terms, rfl, hq, c0, c1, c2, h_terms⟩ := (h_pats.below hb).get hpk
      have hpp := HSPP.out.2 p (List.mem_of_getElem? hpk)
      have hp6' := HPT.out p (List.mem_of_getElem? hpk)
      have HD : Hid (x.pats.drop k = p :: x.pats.drop (k + 1)) := drop_cons hpk
      have HTM := hideH h_terms
      obtain ⟨wo, rfl⟩ : ∃ u, u = wr := ⟨wr, rfl⟩
      have B1 : ∀ o, Below wo.heap.size wo (wo.alloc o) := fun o => (Below.refl _ _).alloc (Nat.le_refl _) _
      clear hbox h_terms
      go_wp2_with (at_builtin; refine wpList_append_any (by rfl) (.tmp 21) (.tmp 22) 144 (by rfl) (wo.heap.size + 1) 9 _ 1 16 Tryz.underlying144 infoStr (by rfl) (by omega) _ 0 [] (by rfl) (World.ownsRow_nil _ _ _ _) a known.length c (by rfl) (known.map Value.string) (by simp) HNIL.out (strs_news (HST.out.below (B1 _))) (strs_one known) (by unfold maxLen; omega) (by omega) (by simp) ?_; intro a2 c2' w2 ho2 hg2 hl2; have hW2 : Below (wo.heap.size + 1) (wo.alloc (.cells #[.bool p.neg, .string p.cls, .slice a_terms p.terms.length c_terms] 51)) w2 := ((Below.refl _ _).grown hg2.out (by simp) (fun j hj => by cases hj)); have d2 : w2.cell? ⟨wo.heap.size, 2, none⟩ = some (.slice a_terms p.terms.length c_terms) := (hW2.cell (p := ⟨wo.heap.size, 2, none⟩) (by simp)).trans (by simp [go_sem]))
      have ho2' : w2.ownsRow (wo.heap.size + 1) 9 1 (.slice a2 known.length c2') known.length (known.map Value.string) := by
        have := ho2.out
        simpa using this
      clear ho2 hg2 hl2 d2 c0 c1 c2 hq
      go_loopw [6, 27] (fun hv i wr' => ∃ (j : Nat) (here : List ByteArray) (a' : Option Addr) (c' : Nat), j ≤ p.terms.length ∧ i = .int .i64 j ∧ hv = .slice a' here.length c' ∧ termsGo p.terms known = termsGo (p.terms.drop j) here ∧ here.length ≤ 6 * k + j ∧ wr'.ownsRow (wo.heap.size + 1) 9 1 (.slice a' here.length c') here.length (here.map Value.string) ∧ Below (wo.heap.size + 1) (wo.alloc (.cells #[.bool p.neg, .string p.cls, .slice a_terms p.terms.length c_terms] 51)) wr') (fun _ i _ => p.terms.length - (intOf i).toNat)
      case atStart => exact ⟨0, known, a2, c2', by omega, rfl, by simp, rfl, by omega, ho2', hW2⟩
      case round =>
        clear ho2' hW2
        obtain ⟨j, here, a', c', hj, rfl, rfl, hT, hhl, hown, hbW⟩ := hrel
        have HT := hideH hT
        have HO := hideH hown
        clear hT hown
        have hBo : Below wo.heap.size wo wr := (B1 _).trans (hbW.mono (by omega))
        have hBw : Below w.heap.size w wr := hb.trans (hBo.mono hb.size)
        have hsz := hbW.size
        have A1 : ∀ o, Below (wo.heap.size + 1) (wo.alloc (.cells #[.bool p.neg, .string p.cls, .slice a_terms p.terms.length c_terms] 51)) (wr.alloc o) := fun o => hbW.alloc (by simp at hsz; omega) _
        by_cases hjl : j < p.terms.length
        · obtain ⟨t, htk⟩ : ∃ t, p.terms[j]? = some t := ⟨p.terms[j], by simp [hjl]⟩
          obtain ⟨b', o', ea, hq, c0, c1, c2, c3, c4, c5⟩ := (HTM.out.below hBo).get htk
          subst ea
          have HDT : Hid (p.terms.drop j = t :: p.terms.drop (j + 1)) := drop_cons htk
          have AW : ∀ o, Below w.heap.size w (wr.alloc o) := fun o => hBw.alloc hBw.size _
          have R1 : ∀ o, Below wr.heap.size wr (wr.alloc o) := fun o => (Below.refl _ _).alloc (Nat.le_refl _) _
          by_cases k2 : t.kind = 2
          · have HN : Hid (termsGo p.terms known = termsGo (p.terms.drop (j + 1)) (here ++ [t.var])) := show termsGo p.terms known = _ from by rw [HT.out, HDT.out, termsGo_cons]; simp [asks, k2]
            rw [k2] at c0
            go_wp2_with (at_builtin; refine wpList_append_any (by rfl) (.tmp 51) (.tmp 54) 144 (by rfl) (wo.heap.size + 1) 9 _ 1 16 Tryz.underlying144 infoStr (by rfl) (by omega) _ here.length _ (by rfl) ((HO.out.alloc _).alloc _) (some ⟨wr.heap.size + 1, 0, none⟩) 1 1 (by rfl) [.string t.var] (by rfl) (fun e => by cases e) (news_alloc2 _ _ _ _ (by simp)) (by simp [Value.oneCell']) (by unfold maxLen; omega) (by omega) (by simp at hsz ⊢; omega) ?_; intro a3 c3' w3 ho3 hg3 hl3)
            have hW3 := (((A1 _).alloc (by simp at hsz; simp; omega) _).grown hg3.out (by simp at hsz; simp; omega) (fun g hg => (HO.out.lt g hg).1))
            have ho3' : w3.ownsRow (wo.heap.size + 1) 9 1 (.slice a3 (here ++ [t.var]).length c3') (here ++ [t.var]).length ((here ++ [t.var]).map Value.string) := by
              have := ho3.out
              simpa using this
            go_roundw
            case rel => exact ⟨j + 1, here ++ [t.var], a3, c3', by omega, by go_num, by simp, HN.out, by simp; omega, ho3', hW3⟩
            case measure => simp [intOf]; omega
          · by_cases k3 : t.kind = 3 ∧ t.var.toList.isEmpty = false
            · obtain ⟨k3, v0⟩ := k3
              rw [k3] at c0
              have hI := hideH (fun w' h => l2Is_any t.var a' c' here w' (q := none) h (by omega))
              cases hm : memB t.var here
              all_goals
                rw [hm] at hI
                go_wp2_with (go_at_call 82; refine (hI.out _ ((StrsAt.owns HO.out).below (R1 _))).mono ?_; rintro e' w1 ⟨rfl, rfl⟩)
              · have HX : Hid (scope x = some (k + 1)) := show scope x = _ from by
                  have hz : termsGo p.terms known = none := by
                    rw [HT.out, HDT.out, termsGo_cons]
                    simp [asks, k3, isE, hm]
                    intro h
                    simp [h] at v0
                  rw [HH.out, HG.out, HD.out, patsGo_cons, hz]
                go_ret
                exact ⟨ret_int (by rw [HX.out]; simp [itemM]), AW _⟩
              · have HN : Hid (termsGo p.terms known = termsGo (p.terms.drop (j + 1)) here) := show termsGo p.terms known = _ from by rw [HT.out, HDT.out, termsGo_cons]; simp [k3, hm]
                go_roundw
                case rel => exact ⟨j + 1, here, a', c', by omega, by go_num, rfl, HN.out, by omega, HO.out.alloc _, A1 _⟩
                case measure => simp [intOf]; omega
            · have HN : Hid (termsGo p.terms known = termsGo (p.terms.drop (j + 1)) here) := show termsGo p.terms known = _ from by
                have ha : asks t = false := by
                  unfold asks isE
                  by_cases h3 : t.kind = 3
                  · have : t.var.toList.isEmpty = true := by cases h : t.var.toList.isEmpty <;> simp_all
                    simp [this]
                  · simp [h3]
                rw [HT.out, HDT.out, termsGo_cons, ha]
                simp [k2]
              by_cases h3 : t.kind = 3
              · have hve : t.var.toList.isEmpty = true := by cases h : t.var.toList.isEmpty <;> simp_all
                clear k3
                rw [h3] at c0
                go_wp2
                go_roundw
                case rel => exact ⟨j + 1, here, a', c', by omega, by go_num, rfl, HN.out, by omega, HO.out.alloc _, A1 _⟩
                case measure => simp [intOf]; omega
              · clear k3
                go_wp2
                go_roundw
                case rel => exact ⟨j + 1, here, a', c', by omega, by go_num, rfl, HN.out, by omega, HO.out.alloc _, A1 _⟩
                case measure => simp [intOf]; omega
        · have HN : Hid (termsGo p.terms known = some here) := show termsGo p.terms known = _ from by
            rw [HT.out, List.drop_eq_nil_of_le (by omega)]
            rfl
          have d0 : wr.cell? ⟨wo.heap.size, 0, none⟩ = some (.bool p.neg) := (hbW.cell (p := ⟨wo.heap.size, 0, none⟩) (by simp)).trans (by simp [go_sem])
          have hbx : RuBox wr w.heap.size x (some ⟨b, o, none⟩) c_pats a_exprs c_exprs a_acts c_acts := (HBX.out.below (B1 _)).belowB hbW (by omega)
          cases hn' : p.neg
          all_goals
            rw [hn'] at d0
            have HM : Hid (patsGo x.pats [] 1 = patsGo (x.pats.drop (k + 1)) (if p.neg then known else here) (k + 1 + 1)) := show patsGo x.pats [] 1 = _ from by rw [HG.out, HD.out, patsGo_cons, HN.out]
            rw [hn'] at HM
            go_wp2
          · go_roundw
            case rel => exact ⟨k + 1, here, a', c', by omega, by go_num, rfl, HM.out, by omega, owns_none HO.out, StrsAt.owns HO.out, hbx, hBw⟩
            case measure => simp [intOf]; omega
          · go_roundw
            case rel => exact ⟨k + 1, known, a, c, by omega, by go_num, rfl, HM.out, by omega, HNIL.out, HST.out.below hBo, hbx, hBw⟩
            case measure => simp [intOf]; omega
    · have hkn36 : known.length ≤ 36 := by omega
      have HN : Hid (scope x = actsV x known) := show scope x = _ from by rw [HH.out, HG.out, List.drop_eq_nil_of_le (by omega)]; rfl
      obtain ⟨q0, q1, q2, q3, q4⟩ := hbox
      go_wp2
      clear q0 q1 q2 q3 q4
      go_loopw [65] (fun i wr' => ∃ (k nx : Nat), k ≤ x.acts.length ∧ i = .int .i64 k ∧ actsV x known = firstBad (actVar x.exprs known) (x.acts.drop k) (x.pats.length + 1 + k) ∧ actsGo SS (x.acts.drop k) nx (k + 1) = none ∧ (x.exprs.take nx).all (knownE known) = true ∧ StrsAt none wr' a known ∧ RuBox wr' w.heap.size x a_pats c_pats a_exprs c_exprs a_acts c_acts ∧ Below w.heap.size w wr') (fun i _ => x.acts.length - (intOf i).toNat)
      case atStart => exact ⟨0, 0, by omega, rfl, rfl, HAG.out, by simp, HST.out, HBX.out, hb⟩
      case round =>
        clear HG HBX HST hb hk hwl HAG
        obtain ⟨k, nx, hk, rfl, hG, hAG, hall, hst, hbox, hb⟩ := hrel
        have HG := hideH hG
        have HAG := hideH hAG
        have HALL := hideH hall
        have HST := hideH hst
        have HBX := hideH hbox
        have hwl : w.heap.size < wr.heap.size := cell_lt hbox.1
        clear hG hAG hall hst
        by_cases hkl2 : k < x.acts.length
        · obtain ⟨y, hyk⟩ : ∃ y, x.acts[k]? = some y := ⟨x.acts[k], by simp [hkl2]⟩
          obtain ⟨b, o, a_args, c_args, rfl, hq, c0, c1, c2, c3, h_args⟩ := (h_acts.below hb).get hyk
          have hyl := (HSA.out.2 y (List.mem_of_getElem? hyk)).2
          have HD : Hid (x.acts.drop k = y :: x.acts.drop (k + 1)) := drop_cons hyk
          have R1 : ∀ o, Below wr.heap.size wr (wr.alloc o) := fun o => (Below.refl _ _).alloc (Nat.le_refl _) _
          have AW : ∀ o, Below w.heap.size w (wr.alloc o) := fun o => hb.alloc hb.size _
          obtain ⟨nx', hga, hAG'⟩ : ∃ n, gAc SS y nx = some n ∧ actsGo SS (x.acts.drop (k + 1)) n (k + 1 + 1) = none := by
            have h := HAG.out
            rw [HD.out, actsGo_cons] at h
            cases hg : gAc SS y nx with
            | none => rw [hg] at h; cases h
            | some n => rw [hg] at h; exact ⟨n, rfl, h⟩
          have hag := gAc_args hga
          have HAG2 := hideH hAG'
          clear hAG' hga
          by_cases hne : y.args = []
          · have hnx : nx' = nx := by
              rw [hne] at hag
              have : some nx = some nx' := hag
              injection this with this
              exact this.symm
            subst hnx
            have HX : Hid (actsV x known = firstBad (actVar x.exprs known) (x.acts.drop (k + 1)) (x.pats.length + 1 + (k + 1))) := show actsV x known = _ from by
              rw [HG.out, HD.out, firstBad_cons, show actVar x.exprs known y = true by simp [actVar, hne]]
              rfl
            have hl0 : y.args.length = 0 := by simp [hne]
            rw [hl0] at c3
            clear hne hag hl0 hbox
            go_wp2
            go_roundw
            case rel => exact ⟨k + 1, nx', by omega, by go_num, HX.out, HAG2.out, HALL.out, HST.out.below (R1 _), HBX.out.below (R1 _), AW _⟩
            case measure => simp [intOf]; omega
          · obtain ⟨xl, hxl, hnx', hxs⟩ := argsGo_last hne hag
            have hle2 := argsGo_le HSP.out hag
            obtain ⟨ln, hln⟩ : ∃ ln, y.args.length = ln + 1 := ⟨y.args.length - 1, by have := List.length_pos_iff.2 hne; omega⟩
            have hlast : y.args[ln]? = some (xl : Int) := by
              rw [List.getLast?_eq_getElem?, hln, Nat.add_sub_cancel] at hxl
              exact hxl
            obtain ⟨x0, s0, hx0, hs0, hs01⟩ : ∃ (x0 : Nat) (s0 : Sp), y.args[0]? = some (x0 : Int) ∧ SS[x0]? = some s0 ∧ s0.1 = nx := by
              cases hy : y.args with
              | nil => exact absurd hy hne
              | cons v r =>
                rw [hy] at hag
                obtain ⟨x0, s0, rfl, h1, h2, _⟩ := argsGo_one hag
                exact ⟨x0, s0, by simp, h1, h2⟩
            have HAV : Hid (actVar x.exprs known y = (x.exprs.take (xl + 1)).all (knownE known)) := actVar_last hxl
            obtain ⟨ba, oa, ea, _, g0⟩ := h_args.get hx0
            subst ea
            obtain ⟨ba2, oa2, ea2, _, gl⟩ := h_args.get hlast
            cases ea2
            have hfl := HFL.out
            rw [hln] at c3
            have z0 : (0 : Int) < (ln : Int) + 1 := by omega
            have z1 : ¬ (ln : Int) + 1 = 0 := by omega
            have z2 : (0 : Int) < ((ln + 1 : Nat) : Int) := by omega
            have z3 : (((ln + 1 : Nat) : Int) == 0) = false := by simp; omega
            have z4 : (((ln : Int) + 1) == 0) = false := by simp; omega
            have g0' := fun o => cell_below (R1 o) g0
            have q3' := fun o => cell_below (R1 o) hbox.2.2.2.1
            have HEX := hideH (fun o => (h_exprs.below (AW o)))
            clear hbox hne hag hxl hq
            simp only [Nat.add_zero] at g0 g0'
            go_wp2
            have HHA := hideH (h_args)
            have HGL := hideH gl
            clear z1 z3 z4 gl hx0 hlast g0 c0 c1 c2 c3 h_args
            have hz := fun n => l2First_any a_exprs c_exprs x.exprs SS x0 s0 ((wr.alloc (.cells #[.int .i64 y.kind, .int .i64 y.k, .string y.cls, .slice (some ⟨ba, oa, none⟩) (ln + 1) c_args] 111)).drewN n) ((HEX.out _).below (below_drewN2 (Below.refl _ _))) HSP.out hs0
            have HZ := hideH hz
            clear hz
            go_quiet (first | (go_at_call 83; refine Calls.quiet_of_same (HZ.out _)))
            rw [hs01]
            clear g0' q3' HEX hs01 hs0 HZ z0 z2
            go_wp2
            obtain ⟨wa, rfl⟩ : ∃ u, u = wr := ⟨wr, rfl⟩
            go_loopw [11] (fun kv wr2 => ∃ (j : Nat), nx ≤ j ∧ j ≤ xl + 1 ∧ kv = .int .i64 (j : Int) ∧ (x.exprs.take j).all (knownE known) = true ∧ wr2.cell? ⟨wa.heap.size, 3, none⟩ = some (.slice (some ⟨ba, oa, none⟩) (ln + 1) c_args) ∧ Below wa.heap.size wa wr2) (fun kv _ => xl + 1 - (intOf kv).toNat)
            case atStart => exact ⟨nx, Nat.le_refl _, by omega, rfl, HALL.out, by simp [go_sem], below_drewN2 (R1 _)⟩
            case round =>
              obtain ⟨j, hj0, hj1, rfl, hall, hbx3, hbW⟩ := hrel
              have HAJ := hideH hall
              clear hall
              have hBw : Below w.heap.size w wr := hb.trans (hbW.mono hb.size)
              have hrb := HBX.out.below hbW
              have hgl := cell_below hbW HGL.out
              have hw1 : IntKind.i64.wrap ((ln : Int) + 1 - 1) = (ln : Int) := by rw [show (ln : Int) + 1 - 1 = (ln : Int) by omega, IntKind.wrap_i64]; omega
              have hw2 : IntKind.i64.wrap (((ln + 1 : Nat) : Int) - 1) = (ln : Int) := by rw [show ((ln + 1 : Nat) : Int) - 1 = (ln : Int) by omega, IntKind.wrap_i64]; omega
              have hw3 : IntKind.i64.wrap (ln : Int) = (ln : Int) := by rw [IntKind.wrap_i64]; omega
              have y0 : (0 : Int) ≤ (ln : Int) := by omega
              have y1 : (ln : Int) < ((ln + 1 : Nat) : Int) := by omega
              have y2 : (ln : Int) < (ln : Int) + 1 := by omega
              by_cases hjl : j ≤ xl
              · obtain ⟨e, hek⟩ : ∃ e, x.exprs[j]? = some e := ⟨x.exprs[j]'(by omega), by simp⟩
                obtain ⟨be, oe, ee, hqe, e0, e1, e2, e3, e4, e5, e6, e7⟩ := (h_exprs.below hBw).get hek
                subst ee
                obtain ⟨r0, r1, r2, r3, r4⟩ := hrb
                have R2 : ∀ o, Below wr.heap.size wr (wr.alloc o) := fun o => (Below.refl _ _).alloc (Nat.le_refl _) _
                have v0 : (0 : Int) ≤ (j : Int) := by omega
                have v1 : (j : Int) < (x.exprs.length : Int) := by omega
                have v2 : (j : Int) ≤ (xl : Int) := by omega
                have hsz := hbW.size
                have r2' := fun o => cell_below (R2 o) r2
                clear r0 r1 r2 r4
                by_cases ek : e.kind = 1
                · rw [ek] at e0
                  have hI := hideH (fun w' h => l2Is_any e.var a c known w' (q := none) h (by omega))
                  cases hm : memB e.var known
                  all_goals
                    rw [hm] at hI
                    go_wp2_with (go_at_call 82; refine (hI.out _ ((HST.out.below hbW).below (R2 _))).mono ?_; rintro e' w1 ⟨rfl, rfl⟩)
                  · have HX : Hid (scope x = some (x.pats.length + 1 + k)) := show scope x = _ from by
                      rw [HN.out, HG.out, HD.out, firstBad_cons, HAV.out, all_take_false hek (by omega) (show knownE known e = false by simp [knownE, ek, hm])]
                      rfl
                    go_ret
                    exact ⟨ret_int (by rw [HX.out]; simp [itemM]; omega), hBw.alloc hBw.size _⟩
                  · have HJ : Hid ((x.exprs.take (j + 1)).all (knownE known) = true) := show (x.exprs.take (j + 1)).all (knownE known) = true from by rw [all_takeS hek, HAJ.out]; simp [knownE, hm]
                    go_roundw
                    case rel => exact ⟨j + 1, by omega, by omega, by go_num, HJ.out, cell_below (R2 _) hbx3, hbW.alloc hsz _⟩
                    case measure => simp [intOf]; omega
                · have HJ : Hid ((x.exprs.take (j + 1)).all (knownE known) = true) := show (x.exprs.take (j + 1)).all (knownE known) = true from by rw [all_takeS hek, HAJ.out]; simp [knownE, ek]
                  go_wp2
                  go_roundw
                  case rel => exact ⟨j + 1, by omega, by omega, by go_num, HJ.out, cell_below (R2 _) hbx3, hbW.alloc hsz _⟩
                  case measure => simp [intOf]; omega
              · have hjx : j = xl + 1 := by omega
                have v2 : ¬ (j : Int) ≤ (xl : Int) := by omega
                have HX : Hid (actsV x known = firstBad (actVar x.exprs known) (x.acts.drop (k + 1)) (x.pats.length + 1 + (k + 1))) := show actsV x known = _ from by
                  rw [HG.out, HD.out, firstBad_cons, HAV.out, ← hjx, HAJ.out]
                  rfl
                clear hrb
                go_wp2
                go_roundw
                case rel => exact ⟨k + 1, nx', by omega, by go_num, HX.out, HAG2.out, by rw [hnx', ← hjx]; exact HAJ.out, HST.out.below hbW, HBX.out.below hbW, hBw⟩
                case measure => simp [intOf]; omega
        · go_wp2
          go_ret
          exact ⟨ret_int (by rw [HN.out, HG.out, List.drop_eq_nil_of_le (by omega)]; rfl), hb⟩
end Go.Proofs.YtgamdkokmkagaaaGreat

/-
  OUR OWN TEXT. Modes: the model's side: terms that look at an earlier positive pattern.
-/
import Derived.Test.YtajgedhmliekoaaGreatKa
import Derived.Test.YtajgedhmliekoaaGreatJx
namespace Go.Proofs.YtajgedhmliekoaaGreat
open Go.RowKit
attribute [local go_sem ↓] Go.wp_at_zero Go.wp_at_succ

theorem hidM {p : Prop} (h : p) : Hid p := h
theorem varsOf_len (ts : List Tm) : (varsOf ts).length ≤ ts.length := by
  unfold varsOf
  rw [List.length_map]
  exact List.length_filter_le _ _

set_option maxHeartbeats 3200000 in
theorem l5Joins_any (x : Ru) (a_pats : Option Addr) (c_pats : Nat) (a_exprs : Option Addr) (c_exprs : Nat) (a_acts : Option Addr) (c_acts : Nat) {q : Option Nat} (w : World) (h_pats : PtsAt q w a_pats x.pats) (hp6 : x.pats.length ≤ 6) (ht6 : ∀ p ∈ x.pats, p.terms.length ≤ 6) :
    Calls Tryz.prog 32 #[.agg #[.string x.name, .int .i64 x.sal, .slice a_pats x.pats.length c_pats, .slice a_exprs x.exprs.length c_exprs, .slice a_acts x.acts.length c_acts]] w fun e w' =>
      e = .returned (.int .i64 (joinsGo jnS x.pats [] : Int)) ∧ Below w.heap.size w w' := by
  have B0 : ∀ o, Below w.heap.size w (w.alloc o) := fun o => (Below.refl _ _).alloc (Nat.le_refl _) _
  have HLE := hidM (fun k => joinsGo_le jnS (x.pats.take k) [] (fun p hp => ht6 p (List.mem_of_mem_take hp)))
  go_enter Tryz.func32, Tryz.ntmps32
  go_wp2
  go_loopw [3, 4, 13] (fun nv kv i wr => ∃ (k : Nat) (a : Option Addr) (c : Nat), k ≤ x.pats.length ∧ i = .int .i64 k ∧ nv = .int .i64 (joinsGo jnS (x.pats.take k) [] : Int) ∧ kv = .slice a (knownGo (x.pats.take k) []).length c ∧ (knownGo (x.pats.take k) []).length ≤ 6 * k ∧ wr.ownsRow (w.heap.size + 1) 9 1 (.slice a (knownGo (x.pats.take k) []).length c) (knownGo (x.pats.take k) []).length ((knownGo (x.pats.take k) []).map Value.string) ∧ w.heap.size < wr.heap.size ∧ Below w.heap.size w wr) (fun _ _ i _ => x.pats.length - (intOf i).toNat)
  case atStart => exact ⟨0, none, 0, by omega, rfl, rfl, rfl, by simp [knownGo], World.ownsRow_nil _ _ _ _, by simp, B0 _⟩
  case round =>
    obtain ⟨k, a, c, hk, rfl, rfl, rfl, hkn, hown, hws, hb⟩ := hrel
    have HO := hidM hown
    have HJ := hidM (HLE.out k)
    clear hown
    by_cases hkl : k < x.pats.length
    · obtain ⟨p, hpk⟩ : ∃ p, x.pats[k]? = some p := ⟨x.pats[k], by simp [hkl]⟩
      obtain ⟨b, o, a_terms, c_terms, rfl, hq, c0, c1, c2, h_terms⟩ := (h_pats.below hb).get hpk
      have hp6' := ht6 p (List.mem_of_getElem? hpk)
      have HTK := hidM (take_succ' _ _ _ hpk)
      have HTM := hidM h_terms
      obtain ⟨wo, rfl⟩ : ∃ u, u = wr := ⟨wr, rfl⟩
      have B1 : ∀ o, Below wo.heap.size wo (wo.alloc o) := fun o => (Below.refl _ _).alloc (Nat.le_refl _) _
      obtain ⟨J, hJ⟩ : ∃ J, J = joinsGo jnS (x.pats.take k) [] := ⟨_, rfl⟩
      obtain ⟨kn, hKN⟩ : ∃ kn, kn = knownGo (x.pats.take k) [] := ⟨_, rfl⟩
      have hJ36 : J ≤ 36 := by
        have h1 := HJ.out
        have h2 : (x.pats.take k).length ≤ 6 := by simp; omega
        omega
      have HJE := hidM hJ
      have HKE := hidM hKN
      rw [← hKN] at hkn HO ⊢
      rw [← hJ]
      clear h_terms hJ HJ hKN
      go_wp2
      clear c0 c1 c2 hq
      go_loopw [3, 7, 20] (fun nv mv i wr' => ∃ (j T : Nat) (a' : Option Addr) (c' : Nat), j ≤ p.terms.length ∧ i = .int .i64 j ∧ nv = .int .i64 (T : Int) ∧ T = J + (p.terms.take j).countP (jnS kn) ∧ mv = .slice a' (varsOf (p.terms.take j)).length c' ∧ wr'.ownsRow (wo.heap.size + 1) 9 1 (.slice a' (varsOf (p.terms.take j)).length c') (varsOf (p.terms.take j)).length ((varsOf (p.terms.take j)).map Value.string) ∧ Below (wo.heap.size + 1) (wo.alloc (.cells #[.bool p.neg, .string p.cls, .slice a_terms p.terms.length c_terms] 90)) wr') (fun _ _ i _ => p.terms.length - (intOf i).toNat)
      case atStart => exact ⟨0, J, none, 0, by omega, rfl, rfl, by simp, rfl, World.ownsRow_nil _ _ _ _, Below.refl _ _⟩
      case round =>
        obtain ⟨j, T, a', c', hj, rfl, rfl, hT, rfl, hmi, hbW⟩ := hrel
        have HT := hidM hT
        have HMI := hidM hmi
        clear hmi
        have hBo : Below wo.heap.size wo wr := (B1 _).trans (hbW.mono (by omega))
        have hsz := hbW.size
        have hcl := countP_le' (jnS kn) (p.terms.take j)
        have hvl := varsOf_len (p.terms.take j)
        have htl : (p.terms.take j).length ≤ 6 := by simp; omega
        have A1 : ∀ o, Below (wo.heap.size + 1) (wo.alloc (.cells #[.bool p.neg, .string p.cls, .slice a_terms p.terms.length c_terms] 90)) (wr.alloc o) := fun o => hbW.alloc (by simp at hsz; omega) _
        have R1 : ∀ o, Below wr.heap.size wr (wr.alloc o) := fun o => (Below.refl _ _).alloc (Nat.le_refl _) _
        have HKS : Hid (∀ o, StrsAt none (wr.alloc o) a kn) := show ∀ o, StrsAt none (wr.alloc o) a kn from fun o => ((StrsAt.owns HO.out).below hBo).below (R1 o)
        by_cases hjl : j < p.terms.length
        · obtain ⟨t, htk⟩ : ∃ t, p.terms[j]? = some t := ⟨p.terms[j], by simp [hjl]⟩
          obtain ⟨b', o', ea, hq, d0, d1, d2, d3, d4, d5⟩ := (HTM.out.below hBo).get htk
          subst ea
          have HC := hidM (countP_succ (f := jnS kn) htk)
          have hI := hidM (fun w' h => l2Is_any t.var a c kn w' (q := none) h (by omega))
          obtain ⟨C, hC⟩ : ∃ C, C = (p.terms.take j).countP (jnS kn) := ⟨_, rfl⟩
          obtain ⟨mi, hMI⟩ : ∃ mi, mi = varsOf (p.terms.take j) := ⟨_, rfl⟩
          rw [← hC] at HC hcl hT HT
          rw [← hMI] at HMI hvl ⊢
          have hw1 : IntKind.i64.wrap ((T : Int) + 1) = ((T + 1 : Nat) : Int) := by rw [IntKind.wrap_i64] <;> omega
          have HMY := hidM (fun h => varsOf_yes htk h)
          have HMN := hidM (fun h => varsOf_no htk h)
          rw [← hMI] at HMY HMN
          clear hC hMI hT
          have hcase : (t.var.toList.isEmpty = true ∧ jnS kn t = false) ∨ (t.var.toList.isEmpty = false ∧ jnS kn t = memB t.var kn) := by
            cases he : t.var.toList.isEmpty
            · right
              exact ⟨rfl, by simp [jnS, isE, he]⟩
            · left
              exact ⟨rfl, by simp [jnS, isE, he]⟩
          by_cases k2 : t.kind = 2
          · have HMY2 := hidM (HMY.out k2)
            clear HMN HMY
            rw [k2] at d0
            rcases hcase with ⟨hve, hjn⟩ | ⟨hve, hjn⟩
            · rw [hjn] at HC
              go_wp2_with (at_builtin; refine wpList_append_any (by rfl) (.tmp 38) (.tmp 41) 91 (by rfl) (wo.heap.size + 1) 9 _ 1 16 Tryz.underlying91 infoStr (by rfl) (by omega) _ mi.length _ (by rfl) ((HMI.out.alloc _).alloc _) (some ⟨wr.heap.size + 1, 0, none⟩) 1 1 (by rfl) [.string t.var] (by rfl) (fun e => by cases e) (news_alloc2 _ _ _ _ (by simp)) (by simp [Value.oneCell']) (by unfold maxLen; omega) (by omega) (by simp at hsz ⊢; omega) ?_; intro a3 c3' w3 ho3 hg3 hl3)
              have hW3 := (((A1 _).alloc (by simp at hsz; simp; omega) _).grown hg3.out (by simp at hsz; simp; omega) (fun g hg => (HMI.out.lt g hg).1))
              have ho3' : w3.ownsRow (wo.heap.size + 1) 9 1 (.slice a3 (mi ++ [t.var]).length c3') (mi ++ [t.var]).length ((mi ++ [t.var]).map Value.string) := by
                have := ho3.out
                simpa using this
              go_roundw
              case rel => exact ⟨j + 1, T, a3, c3', by omega, by go_num, rfl, by rw [HC.out, HT.out]; rfl, by rw [HMY2.out]; simp, by rw [HMY2.out]; exact ho3', hW3⟩
              case measure => simp [intOf]; omega
            · rw [hjn] at HC
              cases hm : memB t.var kn
              all_goals
                rw [hm] at hI HC
                go_wp2_with (first | (go_at_call 62; refine (hI.out _ (HKS.out _)).mono ?_; rintro e' w1 ⟨rfl, rfl⟩) | (at_builtin; refine wpList_append_any (by rfl) (.tmp 38) (.tmp 41) 91 (by rfl) (wo.heap.size + 1) 9 _ 1 16 Tryz.underlying91 infoStr (by rfl) (by omega) _ mi.length _ (by rfl) ((HMI.out.alloc _).alloc _) (some ⟨wr.heap.size + 1, 0, none⟩) 1 1 (by rfl) [.string t.var] (by rfl) (fun e => by cases e) (news_alloc2 _ _ _ _ (by simp)) (by simp [Value.oneCell']) (by unfold maxLen; omega) (by omega) (by simp at hsz ⊢; omega) ?_; intro a3 c3' w3 ho3 hg3 hl3))
                have hW3 := (((A1 _).alloc (by simp at hsz; simp; omega) _).grown hg3.out (by simp at hsz; simp; omega) (fun g hg => (HMI.out.lt g hg).1))
                have ho3' : w3.ownsRow (wo.heap.size + 1) 9 1 (.slice a3 (mi ++ [t.var]).length c3') (mi ++ [t.var]).length ((mi ++ [t.var]).map Value.string) := by
                  have := ho3.out
                  simpa using this
              · go_roundw
                case rel => exact ⟨j + 1, T, a3, c3', by omega, by go_num, rfl, by rw [HC.out, HT.out]; rfl, by rw [HMY2.out]; simp, by rw [HMY2.out]; exact ho3', hW3⟩
                case measure => simp [intOf]; omega
              · go_roundw
                case rel => exact ⟨j + 1, T + 1, a3, c3', by omega, by go_num, rfl, by rw [HC.out, HT.out]; rfl, by rw [HMY2.out]; simp, by rw [HMY2.out]; exact ho3', hW3⟩
                case measure => simp [intOf]; omega
          · have HMN2 := hidM (HMN.out k2)
            clear HMN HMY
            rcases hcase with ⟨hve, hjn⟩ | ⟨hve, hjn⟩
            · rw [hjn] at HC
              go_wp2
              go_roundw
              case rel => exact ⟨j + 1, T, a', c', by omega, by go_num, rfl, by rw [HC.out, HT.out]; rfl, by rw [HMN2.out], by rw [HMN2.out]; exact HMI.out.alloc _, A1 _⟩
              case measure => simp [intOf]; omega
            · rw [hjn] at HC
              cases hm : memB t.var kn
              all_goals
                rw [hm] at hI HC
                go_wp2_with (go_at_call 62; refine (hI.out _ (HKS.out _)).mono ?_; rintro e' w1 ⟨rfl, rfl⟩)
              · go_roundw
                case rel => exact ⟨j + 1, T, a', c', by omega, by go_num, rfl, by rw [HC.out, HT.out]; rfl, by rw [HMN2.out], by rw [HMN2.out]; exact HMI.out.alloc _, A1 _⟩
                case measure => simp [intOf]; omega
              · go_roundw
                case rel => exact ⟨j + 1, T + 1, a', c', by omega, by go_num, rfl, by rw [HC.out, HT.out]; rfl, by rw [HMN2.out], by rw [HMN2.out]; exact HMI.out.alloc _, A1 _⟩
                case measure => simp [intOf]; omega
        · have hjj : p.terms.take j = p.terms := List.take_of_length_le (by omega)
          rw [hjj] at HMI hvl HT ⊢
          clear hT
          have d0 : wr.cell? ⟨wo.heap.size, 0, none⟩ = some (.bool p.neg) := (hbW.cell (p := ⟨wo.heap.size, 0, none⟩) (by simp)).trans (by simp [go_sem])
          have hBw : Below w.heap.size w wr := hb.trans (hBo.mono hb.size)
          have HJ1 : Hid (T = joinsGo jnS (x.pats.take (k + 1)) []) := show T = _ from by rw [HTK.out, joinsGo_snoc, HT.out, HJE.out, HKE.out]
          have HKN := hidM (knownGo_snoc p (x.pats.take k) [])
          rw [← HTK.out, ← HKE.out] at HKN
          have HOW : Hid (wr.ownsRow (w.heap.size + 1) 9 1 (.slice a kn.length c) kn.length (kn.map Value.string)) := owns_of_block HO.out (fun g hg => hBo.block g (HO.out.lt g hg).2)
          obtain ⟨mi, hMI⟩ : ∃ mi, mi = varsOf p.terms := ⟨_, rfl⟩
          have HMIE := hidM hMI
          rw [← hMI] at HMI hvl ⊢
          clear hMI hcl htl
          cases hn2 : p.neg
          all_goals rw [hn2] at d0
          · have HNX : Hid (nextK p kn = kn ++ mi) := show nextK p _ = _ from by simp [nextK, hn2, HMIE.out]
            go_wp2_with (at_builtin; refine wpList_append_any (by rfl) (.tmp 47) (.tmp 48) 91 (by rfl) (w.heap.size + 1) 9 _ 1 16 Tryz.underlying91 infoStr (by rfl) (by omega) _ kn.length _ (by rfl) HOW.out a' mi.length c' (by rfl) (mi.map Value.string) (by simp) (owns_none HMI.out) (strs_news (StrsAt.owns HMI.out)) (strs_one mi) (by unfold maxLen; omega) (by omega) (by have := hBw.size; have := hBo.size; omega) ?_; intro a3 c3' w3 ho3 hg3 hl3)
            have ho3' : w3.ownsRow (w.heap.size + 1) 9 1 (.slice a3 (kn ++ mi).length c3') (kn ++ mi).length ((kn ++ mi).map Value.string) := by
              have := ho3.out
              simpa using this
            have hW3 : Below w.heap.size w w3 := hBw.grown hg3.out hBw.size (fun g hg => by have := (HOW.out.lt g hg).1; omega)
            have hws3 : w.heap.size < w3.heap.size := by
              have h1 := hg3.out.size
              have h2 := hBo.size
              omega
            go_roundw
            case rel => exact ⟨k + 1, a3, c3', by omega, by go_num, by rw [HJ1.out], by rw [HKN.out, HNX.out]; simp, by rw [HKN.out, HNX.out]; simp; omega, by rw [HKN.out, HNX.out]; exact ho3', hws3, hW3⟩
            case measure => simp [intOf]; omega
          · have HNX : Hid (nextK p kn = kn) := show nextK p _ = _ from by simp [nextK, hn2]
            go_wp2
            go_roundw
            case rel => exact ⟨k + 1, a, c, by omega, by go_num, by rw [HJ1.out], by rw [HKN.out, HNX.out], by rw [HKN.out, HNX.out]; omega, by rw [HKN.out, HNX.out]; exact HOW.out, by have := hBo.size; omega, hBw⟩
            case measure => simp [intOf]; omega
    · go_wp2
      go_ret
      rw [List.take_of_length_le (by omega)]
      exact ⟨rfl, hb⟩
end Go.Proofs.YtajgedhmliekoaaGreat

/-
  OUR OWN TEXT. Printed and parsed again: actions, rules.
-/
import Derived.Test.YtjjjagepnnbebaaGreatDoorKbm
namespace Go.Proofs.YtjjjagepnnbebaaGreatDoor

theorem kOk_ref {k : Int} (h : kOk k = true) : refOf k = k ∧ numOk k := by
  unfold kOk at h
  simp at h
  refine ⟨?_, by unfold numOk; omega⟩
  unfold refOf
  rw [if_neg (by omega)]
theorem gAc_some {S : List Sp} {a : Ac} {nx nx' : Nat} (h : gAc S a nx = some nx') : fieldsOk a = true ∧ a.args.length ≤ 6 ∧ argsGo S a.args nx = some nx' := by
  unfold gAc at h
  split at h
  · rename_i hc
    simp only [Bool.and_eq_true, decide_eq_true_eq] at hc
    exact ⟨hc.1, hc.2, h⟩
  · cases h
theorem brkArgs (es : List Ex) (xs : List Int) (r : Bs) : Brk (txArgs es xs ++ 41 :: r) := by
  cases xs with
  | nil => exact brk41 r
  | cons u us => exact Brk.cons _ (by decide)
theorem act_back {es : List Ex} {S : List Sp} (hT : ExT es S) {a : Ac} {nx nx' : Nat} (h : gAc S a nx = some nx') (r : Bs) (k : Nat) : andP (takeW 40 (wds (txA es a ++ r) k)) (fun _ l1 => pAct (es.take nx, nx) l1) = .ok ((a, (es.take nx', nx')), wds r (k + (txA es a).length)) := by
  obtain ⟨hf, hl, hg⟩ := gAc_some h
  obtain ⟨kd, ak, cls, args⟩ := a
  unfold fieldsOk at hf
  simp only at hf hl hg
  have e : txA es ⟨kd, ak, cls, args⟩ ++ r = 40 :: (txHead ⟨kd, ak, cls, args⟩ ++ (txArgs es args ++ 41 :: r)) := by simp [txA]
  have el : (txA es ⟨kd, ak, cls, args⟩).length = 1 + (txHead ⟨kd, ak, cls, args⟩).length + (txArgs es args).length + 1 := by simp [txA]; omega
  rw [e, el, take_open, andP_ok]
  have ha := args_back hT args 6 nx nx' r
  by_cases k1 : kd = 1
  · subst k1
    simp at hf
    obtain ⟨h1, rfl⟩ := hf
    obtain ⟨hs, hne⟩ := gCls_sym h1
    have eh : txHead ⟨1, 0, cls, args⟩ ++ (txArgs es args ++ 41 :: r) = addB ++ (32 :: (bsOf cls ++ (txArgs es args ++ 41 :: r))) := by simp [txHead]
    have ehl : (txHead ⟨1, 0, cls, args⟩).length = addB.length + 1 + (bsOf cls).length := by simp [txHead]; omega
    rw [eh, ehl]
    obtain ⟨x, q1, q2, q3, q4⟩ := (Tok.sym (t := addB) (by decide)).take (32 :: (bsOf cls ++ (txArgs es args ++ 41 :: r))) (k + 1) (brk32 _)
    obtain ⟨y, p1, p2, p3, p4⟩ := (Tok.sym hs).take (txArgs es args ++ 41 :: r) (k + 1 + addB.length + 1) (brkArgs es args r)
    unfold pAct
    rw [q1, andP_ok, q3, if_neg (by decide), if_neg (by decide), if_neg (by decide), if_pos (show addB = addT from rfl), wds32]
    unfold aAdd pClass
    rw [p1]
    simp only [p3, if_neg hne, andP_ok]
    rw [ha _ hl hg, andP_ok, mkS_bs]
    refine congrArg Except.ok (Prod.ext rfl (congrArg (wds r) ?_))
    omega
  by_cases k2 : kd = 2
  · subst k2
    simp at hf
    obtain ⟨⟨h1, h2⟩, rfl⟩ := hf
    obtain rfl := isE_eq h1
    obtain ⟨r1, r2⟩ := kOk_ref h2
    unfold argsGo at hg
    injection hg with hg
    subst hg
    have eh : txHead ⟨2, ak, mkS [], []⟩ ++ (txArgs es [] ++ 41 :: r) = dropB ++ (32 :: (Lib.itoa ak ++ (41 :: r))) := by simp [txHead, txArgs]
    have ehl : (txHead ⟨2, ak, mkS [], []⟩).length = dropB.length + 1 + (Lib.itoa ak).length := by simp [txHead]; omega
    rw [eh, ehl]
    obtain ⟨x, q1, q2, q3, q4⟩ := (Tok.sym (t := dropB) (by decide)).take (32 :: (Lib.itoa ak ++ (41 :: r))) (k + 1) (brk32 _)
    obtain ⟨y, p1, p2, p3, p4⟩ := (Tok.num r2).take (41 :: r) (k + 1 + dropB.length + 1) (brk41 _)
    unfold pAct
    rw [q1, andP_ok, q3, if_neg (by decide), if_neg (by decide), if_pos (show dropB = dropT from rfl), wds32]
    unfold aDrop pRef
    rw [p1, andP_ok, andP_ok, take_close, andP_ok, p4, r1]
    refine congrArg Except.ok (Prod.ext rfl (congrArg (wds r) ?_))
    show _ = k + (1 + (dropB.length + 1 + (Lib.itoa ak).length) + 0 + 1)
    omega
  by_cases k3 : kd = 3
  · subst k3
    simp at hf
    obtain ⟨h1, h2⟩ := hf
    obtain rfl := isE_eq h1
    obtain ⟨r1, r2⟩ := kOk_ref h2
    have eh : txHead ⟨3, ak, mkS [], args⟩ ++ (txArgs es args ++ 41 :: r) = modB ++ (32 :: (Lib.itoa ak ++ (txArgs es args ++ 41 :: r))) := by simp [txHead]
    have ehl : (txHead ⟨3, ak, mkS [], args⟩).length = modB.length + 1 + (Lib.itoa ak).length := by simp [txHead]; omega
    rw [eh, ehl]
    obtain ⟨x, q1, q2, q3, q4⟩ := (Tok.sym (t := modB) (by decide)).take (32 :: (Lib.itoa ak ++ (txArgs es args ++ 41 :: r))) (k + 1) (brk32 _)
    obtain ⟨y, p1, p2, p3, p4⟩ := (Tok.num r2).take (txArgs es args ++ 41 :: r) (k + 1 + modB.length + 1) (brkArgs es args r)
    unfold pAct
    rw [q1, andP_ok, q3, if_neg (by decide), if_pos (show modB = modT from rfl), wds32]
    unfold aMod pRef
    rw [p1, andP_ok, andP_ok, ha _ hl hg, andP_ok, p4, r1]
    refine congrArg Except.ok (Prod.ext rfl (congrArg (wds r) ?_))
    omega
  by_cases k4 : kd = 4
  · subst k4
    simp at hf
    obtain ⟨h1, rfl, rfl⟩ := hf
    obtain rfl := isE_eq h1
    unfold argsGo at hg
    injection hg with hg
    subst hg
    have eh : txHead ⟨4, 0, mkS [], []⟩ ++ (txArgs es [] ++ 41 :: r) = haltB ++ (41 :: r) := by simp [txHead, txArgs]
    have ehl : (txHead ⟨4, 0, mkS [], []⟩).length = haltB.length := by simp [txHead]
    rw [eh, ehl]
    obtain ⟨x, q1, q2, q3, q4⟩ := (Tok.sym (t := haltB) (by decide)).take (41 :: r) (k + 1) (brk41 _)
    unfold pAct
    rw [q1, andP_ok, q3, if_pos (show haltB = haltT from rfl)]
    unfold aHalt
    rw [take_close, andP_ok]
    refine congrArg Except.ok (Prod.ext rfl (congrArg (wds r) ?_))
    show _ = k + (1 + haltB.length + 0 + 1)
    omega
  · simp [k1, k2, k3, k4] at hf
theorem acts_back {es : List Ex} {S : List Sp} (hT : ExT es S) : ∀ (l : List Ac) (n nx j : Nat) (r : Bs) (k : Nat), l.length ≤ n → actsGo S l nx j = none →
    andP (pManyS 41 pAct n (es.take nx, nx) (wds (txAs es l ++ 41 :: r) k)) (fun q l6 => andP (takeW 41 l6) fun _ l7 => .ok (q, l7)) = .ok ((l, (es, es.length)), wds r (k + (txAs es l).length + 1))
  | [], n, nx, j, r, k, _, h => by
    unfold actsGo at h
    split at h
    · rename_i hn
      subst hn
      show andP (pManyS 41 pAct n _ (wds (41 :: r) k)) _ = _
      rw [pManyS_end (k := 41) (next_close r k) rfl, andP_ok, take_close, andP_ok, hT.2.2.1, List.take_of_length_le (Nat.le_refl _)]
      rfl
    · cases h
  | a :: l, n, nx, j, r, k, hl, h => by
    obtain ⟨m, rfl⟩ : ∃ m, n = m + 1 := ⟨n - 1, by simp at hl; omega⟩
    unfold actsGo at h
    cases hg : gAc S a nx with
    | none => rw [hg] at h; cases h
    | some nx' =>
      rw [hg] at h
      simp only at h
      have e : txAs es (a :: l) ++ 41 :: r = lineB ++ (txA es a ++ (txAs es l ++ 41 :: r)) := by simp [txAs]
      have el : (txAs es (a :: l)).length = 3 + (txA es a).length + (txAs es l).length := by simp [txAs, lineB]; omega
      have hab := act_back hT hg (txAs es l ++ 41 :: r) (k + 3)
      obtain ⟨s, hs⟩ : ∃ s, txA es a ++ (txAs es l ++ 41 :: r) = 40 :: s := ⟨_, rfl⟩
      rw [e, el, wdsLine]
      rw [hs] at hab ⊢
      rw [take_open, andP_ok] at hab
      have hst := pManyS_step (M := []) (k := 41) (rd := pAct) (n := m) (next_open s (k + 3)) (show (40 : Int) ≠ 41 by decide) (take_open s (k + 3)) hab
      have h1 : pManyS 41 pAct (m + 1) (es.take nx, nx) (wds (40 :: s) (k + 3)) = preE [a] (pManyS 41 pAct m (es.take nx', nx') (wds (txAs es l ++ 41 :: r) (k + 3 + (txA es a).length))) := by
        cases hq : pManyS 41 pAct (m + 1) (es.take nx, nx) (wds (40 :: s) (k + 3)) with
        | error f => rw [hq] at hst; exact hst
        | ok q => rw [hq] at hst; simpa [preE] using hst
      rw [h1]
      have ih := acts_back hT l m nx' (j + 1) r (k + 3 + (txA es a).length) (by simp at hl; omega) h
      cases hq : pManyS 41 pAct m (es.take nx', nx') (wds (txAs es l ++ 41 :: r) (k + 3 + (txA es a).length)) with
      | error f => rw [hq] at ih; cases ih
      | ok q =>
        obtain ⟨⟨vs, s2⟩, l6⟩ := q
        rw [hq, andP_ok] at ih
        show andP (takeW 41 l6) (fun _ l7 => .ok (([a] ++ vs, s2), l7)) = _
        cases ht : takeW 41 l6 with
        | error f => rw [ht] at ih; cases ih
        | ok z =>
          obtain ⟨x, l7⟩ := z
          rw [ht, andP_ok] at ih
          injection ih with ih
          injection ih with i1 i2
          injection i1 with i1 i3
          rw [andP_ok, i1, i2, i3]
          refine congrArg Except.ok (Prod.ext rfl (congrArg (wds r) ?_))
          omega
theorem shape_all {r : Ru} (h : shape r = none) : headOk r = true ∧ (∀ p ∈ r.pats, gPt p = true) ∧ Spans r.exprs (spansGo [] r.exprs) ∧ (spansGo [] r.exprs).length = r.exprs.length ∧ actsGo (spansGo [] r.exprs) r.acts 0 1 = none := by
  obtain ⟨hp6, hpt⟩ := shape_pats h
  unfold shape at h
  split at h
  · rename_i hh
    split at h
    · cases h
    · split at h
      · cases h
      · rename_i hlt
        have hS := (spansGo_spans (es := r.exprs) (l := r.exprs) (Spans.nil _) rfl).1
        exact ⟨hh, hpt, hS, by have := hS.1; omega, h⟩
  · cases h
theorem rule_back {ru : Ru} (h : shape ru = none) (hn : RuN ru) (u : Bs) (k : Nat) : andP (takeW 40 (wds (txR ru ++ u) k)) (fun _ l1 => pRule l1) = .ok (ru, wds u (k + (txR ru).length)) := by
  obtain ⟨hh, hpt, hS, hfull, hacts⟩ := shape_all h
  obtain ⟨n1, n2, n3⟩ := hn
  obtain ⟨nm, sl, ps, es, as'⟩ := ru
  simp only [headOk, Bool.and_eq_true, decide_eq_true_eq] at hh
  obtain ⟨hs, hp, ha, he⟩ := hh
  simp only at hs hp ha he hpt hS hfull hacts n1 n2 n3
  have hT : ExT es (spansGo [] es) := ⟨he, hS, hfull, n3⟩
  have e : txR ⟨nm, sl, ps, es, as'⟩ ++ u = 40 :: (ruleT ++ (32 :: (bsOf nm ++ (32 :: (Lib.itoa sl ++ (txPs ps ++ (lineB ++ (thenB ++ (txAs es as' ++ 41 :: (10 :: u)))))))))) := by
    simp [txR, txHd, ruleB, ruleT]
  have el : (txR ⟨nm, sl, ps, es, as'⟩).length = 1 + ruleT.length + 1 + (bsOf nm).length + 1 + (Lib.itoa sl).length + (txPs ps).length + 5 + (txAs es as').length + 1 + 1 := by
    simp [txR, txHd, ruleB, ruleT, lineB, thenB]
    omega
  rw [e, el, take_open, andP_ok]
  have hbp : Brk (txPs ps ++ (lineB ++ (thenB ++ (txAs es as' ++ 41 :: (10 :: u))))) := by
    cases ps with
    | nil => exact Brk.cons _ (by decide)
    | cons x xs => exact Brk.cons _ (by decide)
  have hba : Brk (txAs es as' ++ 41 :: (10 :: u)) := by
    cases as' with
    | nil => exact brk41 _
    | cons x xs => exact Brk.cons _ (by decide)
  obtain ⟨x, q1, q2, q3, q4⟩ := (Tok.sym (t := ruleT) (by decide)).take (32 :: (bsOf nm ++ (32 :: (Lib.itoa sl ++ (txPs ps ++ (lineB ++ (thenB ++ (txAs es as' ++ 41 :: (10 :: u))))))))) (k + 1) (brk32 _)
  obtain ⟨y, p1, p2, p3, p4⟩ := (Tok.sym (t := bsOf nm) hs).take (32 :: (Lib.itoa sl ++ (txPs ps ++ (lineB ++ (thenB ++ (txAs es as' ++ 41 :: (10 :: u))))))) (k + 1 + ruleT.length + 1) (brk32 _)
  obtain ⟨z, r1, r2, r3, r4⟩ := (Tok.num n1).take (txPs ps ++ (lineB ++ (thenB ++ (txAs es as' ++ 41 :: (10 :: u))))) (k + 1 + ruleT.length + 1 + (bsOf nm).length + 1) hbp
  have hps := pats_back ps 6 (txAs es as' ++ 41 :: (10 :: u)) (k + 1 + ruleT.length + 1 + (bsOf nm).length + 1 + (Lib.itoa sl).length) hp (fun p hp => ⟨hpt p hp, n2 p hp⟩) hba
  have has := acts_back hT as' 8 0 1 (10 :: u) (k + 1 + ruleT.length + 1 + (bsOf nm).length + 1 + (Lib.itoa sl).length + (txPs ps).length + 5) ha hacts
  unfold pRule
  rw [q1, andP_ok, q3, if_pos rfl, wds32, p1, andP_ok, wds32, r1, andP_ok]
  cases hq : pMany 62 pPat 6 (wds (txPs ps ++ (lineB ++ (thenB ++ (txAs es as' ++ 41 :: (10 :: u))))) (k + 1 + ruleT.length + 1 + (bsOf nm).length + 1 + (Lib.itoa sl).length)) with
  | error f => rw [hq] at hps; cases hps
  | ok q =>
    obtain ⟨vs, l4⟩ := q
    rw [hq, andP_ok] at hps
    rw [andP_ok]
    cases ht : takeW 62 l4 with
    | error f => rw [ht] at hps; cases hps
    | ok z =>
      obtain ⟨x4, l5⟩ := z
      rw [ht, andP_ok] at hps
      injection hps with hps
      injection hps with i1 i2
      subst i1
      subst i2
      rw [andP_ok]
      rw [List.take_zero] at has
      cases hw : pManyS 41 pAct 8 ([], 0) (wds (txAs es as' ++ 41 :: (10 :: u)) (k + 1 + ruleT.length + 1 + (bsOf nm).length + 1 + (Lib.itoa sl).length + (txPs vs).length + 5)) with
      | error f => rw [hw] at has; cases has
      | ok q =>
        obtain ⟨⟨ws, s2⟩, l6⟩ := q
        rw [hw, andP_ok] at has
        rw [andP_ok]
        cases hv : takeW 41 l6 with
        | error f => rw [hv] at has; cases has
        | ok z =>
          obtain ⟨x6, l7⟩ := z
          rw [hv, andP_ok] at has
          injection has with has
          injection has with j1 j2
          injection j1 with j1 j3
          subst j1
          subst j2
          subst j3
          rw [andP_ok, p3, r4, mkS_bs, wds10]
          refine congrArg Except.ok (Prod.ext rfl (congrArg (wds u) ?_))
          omega
theorem rules_back : ∀ (rs : List Ru) (n : Nat) (u : Bs) (k : Nat), rs.length ≤ n → (∀ r ∈ rs, shape r = none ∧ RuN r) → pMany 0 pRule n (wds (txRs rs ++ u) k) = preL rs (pMany 0 pRule (n - rs.length) (wds u (k + (txRs rs).length)))
  | [], n, u, k, _, _ => by
    show pMany 0 pRule n (wds u k) = preL [] (pMany 0 pRule n (wds u k))
    unfold preL
    cases pMany 0 pRule n (wds u k) <;> rfl
  | r :: rs, n, u, k, hl, hr => by
    obtain ⟨m, rfl⟩ : ∃ m, n = m + 1 := ⟨n - 1, by simp at hl; omega⟩
    obtain ⟨g1, g2⟩ := hr r (by simp)
    have e : txRs (r :: rs) ++ u = txR r ++ (txRs rs ++ u) := by simp [txRs]
    have el : (txRs (r :: rs)).length = (txR r).length + (txRs rs).length := by simp [txRs]
    have hrb := rule_back g1 g2 (txRs rs ++ u) k
    obtain ⟨s, hs⟩ : ∃ s, txR r ++ (txRs rs ++ u) = 40 :: s := ⟨_, rfl⟩
    rw [e, el, hs]
    rw [hs, take_open, andP_ok] at hrb
    have hst := pMany_step (M := []) (k := 0) (rd := pRule) (n := m) (next_open s k) (show (40 : Int) ≠ 0 by decide) (take_open s k) hrb
    have h1 : pMany 0 pRule (m + 1) (wds (40 :: s) k) = preL [r] (pMany 0 pRule m (wds (txRs rs ++ u) (k + (txR r).length))) := by
      cases hq : pMany 0 pRule (m + 1) (wds (40 :: s) k) with
      | error f => rw [hq] at hst; exact hst
      | ok q => rw [hq] at hst; simpa [preL] using hst
    rw [h1, rules_back rs m u _ (by simp at hl; omega) (fun x hx => hr x (by simp [hx]))]
    have ec : m + 1 - (r :: rs).length = m - rs.length := by simp
    rw [ec, Nat.add_assoc]
    cases pMany 0 pRule (m - rs.length) (wds u (k + ((txR r).length + (txRs rs).length))) with
    | error f => rfl
    | ok q => simp [preL]
/-- Checked rules, printed, are given back. -/
theorem print_back {rs : List Ru} (h : (chk rs).1 = 0) (hn : ∀ r ∈ rs, RuN r) (hl : (txRs rs).length ≤ 20000) : ∃ l, prR (txRs rs) = .ok (rs, l) := by
  obtain ⟨h1, h2⟩ := chk_each h
  refine ⟨[⟨0, 0 + (txRs rs).length, [], 0⟩], ?_⟩
  unfold prR pRules
  rw [if_neg (by omega), wordsOf_wds]
  have := rules_back rs 16 [] 0 h1 (fun r hr => ⟨(h2 r hr).1, hn r hr⟩)
  rw [List.append_nil] at this
  rw [this, wds_nil, pMany_end (k := 0) (rd := pRule) (x := ⟨0, 0 + (txRs rs).length, [], 0⟩) (r := [⟨0, 0 + (txRs rs).length, [], 0⟩]) rfl rfl]
  simp [preL]
theorem txE_lin {es : List Ex} {S : List Sp} (hT : ExT es S) : ∀ (i a dep : Nat), S[i]? = some (a, dep) → ∀ n, (txE n es i).length ≤ 24 * (i + 1 - a) := by
  intro i
  induction i using Nat.strongRecOn with
  | _ i ih =>
    intro a dep hs n
    have hai := (expr_back hT i a dep hs).1
    have hi : i < S.length := (List.getElem?_eq_some_iff.1 hs).1
    have hsl := hT.2.2.1
    obtain ⟨e, he⟩ : ∃ e, es[i]? = some e := ⟨es[i]'(by omega), by simp [show i < es.length by omega]⟩
    cases n with
    | zero => simp [txE]
    | succ n =>
      rw [txE_one n es i e he]
      by_cases k1 : e.kind = 1
      · rw [if_pos k1]
        rcases hT.kind he with ⟨h1, _⟩ | ⟨_, h2⟩ | ⟨h1, _⟩
        · omega
        · have := gSym_le (l := bsOf e.var) h2
          simp only [List.length_cons]
          omega
        · omega
      · rw [if_neg k1]
        by_cases k2 : e.kind = 2
        · rw [if_pos k2]
          obtain ⟨ia, ib, sa, sb, h1, h2, h3, h4, h5, h6, h7⟩ := hT.2.1.op hs he k2
          have hsp := hT.2.1.2 i _ e hs he
          rw [h1, h2, Int.toNat_natCast, Int.toNat_natCast]
          have ra := ih ia (by omega) sa.1 sa.2 h5 n
          have rb := ih ib (by omega) sb.1 sb.2 h6 n
          have qa := (expr_back hT ia sa.1 sa.2 h5).1
          have qb := (expr_back hT ib sb.1 sb.2 h6).1
          have hab : sb.1 = ia + 1 := by
            unfold spanOf at hsp
            simp [k2] at hsp
            have hsp := hsp.2
            unfold spanAB at hsp
            rw [h1, h2, Int.toNat_natCast, Int.toNat_natCast, List.getElem?_take, if_pos (by omega), List.getElem?_take, if_pos (by omega), h5, h6] at hsp
            simp at hsp
            omega
          injection h7 with h7 _
          simp only [List.length_cons, List.length_append, List.length_nil]
          omega
        · rw [if_neg k2]
          rcases hT.kind he with ⟨_, h2⟩ | ⟨h1, _⟩ | ⟨h1, _⟩
          · have := txV_le h2 (hT.2.2.2 e (List.mem_of_getElem? he))
            omega
          · omega
          · omega
theorem txArgs_lin {es : List Ex} {S : List Sp} (hT : ExT es S) : ∀ (xs : List Int) (nx nx' : Nat), argsGo S xs nx = some nx' → nx ≤ nx' ∧ (txArgs es xs).length ≤ xs.length + 24 * (nx' - nx)
  | [], nx, nx', h => by
    unfold argsGo at h
    injection h with h
    simp [txArgs, h]
  | x :: xs, nx, nx', h => by
    unfold argsGo at h
    split at h
    · rename_i hc
      simp at hc
      obtain ⟨h0, h1, h2⟩ := hc
      obtain ⟨i, rfl⟩ : ∃ i : Nat, x = (i : Int) := ⟨x.toNat, by omega⟩
      rw [Int.toNat_natCast] at h h2
      have hi : i < S.length := by omega
      obtain ⟨⟨a, dep⟩, hs⟩ : ∃ s, S[i]? = some s := ⟨S[i], by simp [hi]⟩
      rw [hs] at h2
      simp at h2
      subst h2
      have hai := (expr_back hT i a dep hs).1
      have hl := txE_lin hT i a dep hs 60
      obtain ⟨q1, q2⟩ := txArgs_lin hT xs (i + 1) nx' h
      have el : (txArgs es ((i : Int) :: xs)).length = 1 + (txE 60 es i).length + (txArgs es xs).length := by simp [txArgs]; omega
      rw [el, List.length_cons]
      omega
    · cases h
theorem txAs_lin {es : List Ex} {S : List Sp} (hT : ExT es S) : ∀ (l : List Ac) (nx j : Nat), nx ≤ S.length → actsGo S l nx j = none → (txAs es l).length ≤ 41 * l.length + 24 * (S.length - nx)
  | [], nx, j, _, _ => by simp [txAs]
  | a :: l, nx, j, hx, h => by
    unfold actsGo at h
    cases hg : gAc S a nx with
    | none => rw [hg] at h; cases h
    | some nx' =>
      rw [hg] at h
      simp only at h
      obtain ⟨hf, hl, hgo⟩ := gAc_some hg
      obtain ⟨q1, q2⟩ := txArgs_lin hT a.args nx nx' hgo
      have hat : AcT es a := ⟨hf, hl, fun v hv => by have := argsGo_in hgo v hv; rw [hT.2.2.1] at this; exact this⟩
      have hh := txHead_le hat
      have hle : nx' ≤ S.length := by
        clear h q2 hat
        revert hgo
        generalize a.args = xs
        intro hgo
        clear hl hh hf hg q1
        induction xs generalizing nx with
        | nil =>
          unfold argsGo at hgo
          injection hgo with hgo
          omega
        | cons x xs ih =>
          unfold argsGo at hgo
          split at hgo
          · rename_i hc
            simp at hc
            exact ih (x.toNat + 1) (by omega) hgo
          · cases hgo
      have q3 := txAs_lin hT l nx' (j + 1) hle h
      have el : (txAs es (a :: l)).length = 3 + (1 + (txHead a).length + (txArgs es a.args).length + 1) + (txAs es l).length := by simp [txAs, txA, lineB]; omega
      rw [el, List.length_cons]
      omega
theorem txR_lin {r : Ru} (h : shape r = none) (hn : RuN r) : (txR r).length ≤ 4000 := by
  have hT := RuT.of h hn
  obtain ⟨hh, hpt, hS, hfull, hacts⟩ := shape_all h
  simp only [headOk, Bool.and_eq_true, decide_eq_true_eq] at hh
  have h1 := txHd_le hT
  have h2 := txPs_le hT.2.2.1 hT.2.2.2.1
  have h3 := txAs_lin ⟨hh.2.2.2, hS, hfull, hn.2.2⟩ r.acts 0 1 (Nat.zero_le _) hacts
  have h4 := hh.2.2.1
  have h5 := hh.2.2.2
  have el : (txR r).length = (txHd r).length + ((txPs r.pats).length + (5 + ((txAs r.exprs r.acts).length + 2))) := by simp [txR, lineB, thenB]; omega
  rw [el]
  omega
theorem txRs_lin : ∀ (rs : List Ru), (∀ r ∈ rs, shape r = none ∧ RuN r) → (txRs rs).length ≤ 4000 * rs.length
  | [], _ => by simp [txRs]
  | r :: rs, h => by
    have h1 := txR_lin (h r (by simp)).1 (h r (by simp)).2
    have h2 := txRs_lin rs (fun x hx => h x (by simp [hx]))
    have el : (txRs (r :: rs)).length = (txR r).length + (txRs rs).length := by simp [txRs]
    rw [el, List.length_cons]
    omega
end Go.Proofs.YtjjjagepnnbebaaGreatDoor

/-
  OUR OWN TEXT. Rules that were drawn are checked: the plain mathematics.
-/
import Derived.Test.YtgkoiojelckblaaGreatDoorKag
namespace Go.Proofs.YtgkoiojelckblaaGreatDoor

abbrev emB : ByteArray := ⟨#[]⟩
/-- A leaf that was drawn: a good value, or a word that is known. -/
def Leaf (K : List ByteArray) (e : Ex) : Prop := (∃ v, gVal v = true ∧ e = ⟨0, 0, emB, v, 0, 0⟩) ∨ ∃ s, s ∈ K ∧ e = ⟨1, 0, s, (0, 0, emB), 0, 0⟩
def opE (op a b : Int) : Ex := ⟨2, op, emB, (0, 0, emB), a, b⟩
/-- Exprs that were drawn behind n others us one tree. -/
def Tree (K : List ByteArray) : Nat → Nat → List Ex → Prop
  | 0, _, ys => ∃ e, ys = [e] ∧ Leaf K e
  | d + 1, n, ys => (∃ e, ys = [e] ∧ Leaf K e) ∨ ∃ A B op, isAr op = true ∧ Tree K d n A ∧ Tree K d (n + A.length) B ∧ ys = A ++ (B ++ [opE op (((n + A.length : Nat) : Int) - 1) (((n + A.length + B.length : Nat) : Int) - 1)])
theorem Tree.leaf {K : List ByteArray} {d n : Nat} {e : Ex} (h : Leaf K e) : Tree K d n [e] := by
  cases d with
  | zero => exact ⟨e, rfl, h⟩
  | succ d => exact .inl ⟨e, rfl, h⟩
theorem Tree.pos {K : List ByteArray} {d n : Nat} {ys : List Ex} (h : Tree K d n ys) : 1 ≤ ys.length := by
  cases d with
  | zero =>
    obtain ⟨e, rfl, _⟩ := h
    exact Nat.le_refl 1
  | succ d =>
    rcases h with ⟨e, rfl, _⟩ | ⟨A, B, op, _, _, _, rfl⟩
    · exact Nat.le_refl 1
    · simp only [List.length_append, List.length_cons, List.length_nil]
      omega
theorem toList_em : (⟨#[]⟩ : ByteArray).toList = [] := by decide +kernel
theorem isE_em' : isE ⟨#[]⟩ = true := by rw [isE, toList_em]; rfl
theorem isE_em : isE emB = true := isE_em'
theorem zeroV_zero' : zeroV ((0, 0, ⟨#[]⟩) : V) = true := by
  have : zeroV ((0, 0, ⟨#[]⟩) : V) = isE ⟨#[]⟩ := rfl
  rw [this, isE_em']
theorem zeroV_zero : zeroV ((0, 0, emB) : V) = true := zeroV_zero'
theorem gVal_num (n : Int) : gVal (0, n, ⟨#[]⟩) = true := by
  have : gVal (0, n, ⟨#[]⟩) = ((⟨#[]⟩ : ByteArray).toList.isEmpty || false) := rfl
  rw [this, toList_em]
  rfl
theorem Tree.known {K : List ByteArray} : ∀ {d n : Nat} {ys : List Ex}, Tree K d n ys → ∀ e ∈ ys, knownE K e = true := by
  have leafK : ∀ {e : Ex}, Leaf K e → knownE K e = true := by
    rintro e (⟨v, _, rfl⟩ | ⟨s, hs, rfl⟩)
    · rfl
    · have : memB s K = true := List.any_eq_true.2 ⟨s, hs, by simp⟩
      simp [knownE, this]
  intro d
  induction d with
  | zero =>
    rintro n ys ⟨e, rfl, h⟩ x hx
    simp at hx
    exact hx ▸ leafK h
  | succ d ih =>
    rintro n ys (⟨e, rfl, h⟩ | ⟨A, B, op, _, hA, hB, rfl⟩) x hx
    · simp at hx
      exact hx ▸ leafK h
    · simp at hx
      rcases hx with hx | hx | hx
      · exact ih hA x hx
      · exact ih hB x hx
      · rw [hx]
        rfl
theorem spansGo_cons {S : List Sp} {e : Ex} {s : Sp} (h : spanOf S e = some s) (r : List Ex) : spansGo S (e :: r) = spansGo (S ++ [s]) r := by
  simp only [spansGo, h]
theorem Leaf.span {K : List ByteArray} (hK : ∀ s ∈ K, gSym s.data.toList = true) {e : Ex} (h : Leaf K e) (S : List Sp) : spanOf S e = some (S.length, 0) := by
  rcases h with ⟨v, hv, rfl⟩ | ⟨s, hs, rfl⟩
  · simp [spanOf, leafOk, hv, isE_em]
  · simp [spanOf, leafOk, hK s hs, zeroV_zero]
theorem get_snoc {α : Type} (l : List α) (x : α) (i : Nat) (h : i = l.length) : (l ++ [x])[i]? = some x := by subst h; simp
theorem Tree.spans {K : List ByteArray} (hK : ∀ s ∈ K, gSym s.data.toList = true) : ∀ {d : Nat}, d ≤ 20 → ∀ {n : Nat} {ys : List Ex}, Tree K d n ys → ∀ (S : List Sp), S.length = n →
    ∃ T m, T.length + 1 = ys.length ∧ m ≤ d ∧ ∀ r, spansGo S (ys ++ r) = spansGo (S ++ T ++ [(n, m)]) r := by
  intro d
  induction d with
  | zero =>
    rintro _ n ys ⟨e, rfl, h⟩ S hS
    refine ⟨[], 0, rfl, Nat.le_refl _, fun r => ?_⟩
    rw [List.singleton_append, spansGo_cons (h.span hK S), hS, List.append_nil]
  | succ d ih =>
    rintro hd n ys (⟨e, rfl, h⟩ | ⟨A, B, op, hop, hA, hB, rfl⟩) S hS
    · refine ⟨[], 0, rfl, Nat.zero_le _, fun r => ?_⟩
      rw [List.singleton_append, spansGo_cons (h.span hK S), hS, List.append_nil]
    · obtain ⟨TA, mA, hlA, hmA, hgA⟩ := ih (by omega) hA S hS
      obtain ⟨TB, mB, hlB, hmB, hgB⟩ := ih (by omega) hB (S ++ TA ++ [(n, mA)]) (by simp; omega)
      have hl1 : (S ++ TA ++ [(n, mA)]).length = n + A.length := by simp; omega
      have hl2 : (S ++ TA ++ [(n, mA)] ++ TB ++ [(n + A.length, mB)]).length = n + A.length + B.length := by simp; omega
      have hpA := hA.pos
      have hpB := hB.pos
      have hb : (S ++ TA ++ [(n, mA)] ++ TB ++ [(n + A.length, mB)])[((((n + A.length + B.length : Nat) : Int) - 1)).toNat]? = some (n + A.length, mB) := get_snoc _ _ _ (by simp; omega)
      have ha : (S ++ TA ++ [(n, mA)] ++ TB ++ [(n + A.length, mB)])[((((n + A.length : Nat) : Int) - 1)).toNat]? = some (n, mA) := by
        rw [List.append_assoc, List.getElem?_append_left (by rw [hl1]; omega)]
        exact get_snoc _ _ _ (by simp; omega)
      have hspan : spanOf (S ++ TA ++ [(n, mA)] ++ TB ++ [(n + A.length, mB)]) (opE op (((n + A.length : Nat) : Int) - 1) (((n + A.length + B.length : Nat) : Int) - 1)) = some (n, 1 + max mA mB) := by
        have ho : opOk (S ++ TA ++ [(n, mA)] ++ TB ++ [(n + A.length, mB)]) (opE op (((n + A.length : Nat) : Int) - 1) (((n + A.length + B.length : Nat) : Int) - 1)) = true := by
          unfold opOk
          rw [hl2]
          show (isAr op && (isE ⟨#[]⟩ && (zeroV ((0, 0, ⟨#[]⟩) : V) && _))) = true
          rw [hop, isE_em', zeroV_zero']
          show (decide (((n + A.length + B.length : Nat) : Int) - 1 = ((n + A.length + B.length : Nat) : Int) - 1) && (decide (0 ≤ ((n + A.length + B.length : Nat) : Int) - 1) && decide (0 ≤ ((n + A.length : Nat) : Int) - 1))) = true
          simp only [Bool.and_eq_true, decide_eq_true_eq]
          exact ⟨trivial, by omega, by omega⟩
        unfold spanOf
        rw [if_neg (show ¬ ((opE op (((n + A.length : Nat) : Int) - 1) (((n + A.length + B.length : Nat) : Int) - 1)).kind == 0) = true from fun h => by cases h), if_neg (show ¬ ((opE op (((n + A.length : Nat) : Int) - 1) (((n + A.length + B.length : Nat) : Int) - 1)).kind == 1) = true from fun h => by cases h), if_pos (show ((opE op (((n + A.length : Nat) : Int) - 1) (((n + A.length + B.length : Nat) : Int) - 1)).kind == 2) = true from rfl), if_pos ho]
        show spanAB _ (((n + A.length : Nat) : Int) - 1) (((n + A.length + B.length : Nat) : Int) - 1) = _
        unfold spanAB
        simp only [hb, ha]
        rw [if_pos]
        simp only [Bool.and_eq_true, decide_eq_true_eq]
        exact ⟨by first | trivial | rfl | omega, by omega⟩
      refine ⟨TA ++ [(n, mA)] ++ TB ++ [(n + A.length, mB)], 1 + max mA mB, by simp; omega, by omega, fun r => ?_⟩
      have e1 : A ++ (B ++ [opE op (((n + A.length : Nat) : Int) - 1) (((n + A.length + B.length : Nat) : Int) - 1)]) ++ r = A ++ (B ++ (opE op (((n + A.length : Nat) : Int) - 1) (((n + A.length + B.length : Nat) : Int) - 1) :: r)) := by simp
      rw [e1, hgA, hgB, spansGo_cons hspan]
      simp only [List.append_assoc]

/-- Arguments that were drawn behind n exprs: a tree each. -/
def Trees (K : List ByteArray) : Nat → List Ex → List Int → Prop
  | _, ys, [] => ys = []
  | n, ys, x :: r => ∃ A B, ys = A ++ B ∧ Tree K 2 n A ∧ x = ((n + A.length : Nat) : Int) - 1 ∧ Trees K (n + A.length) B r
theorem Trees.snoc {K : List ByteArray} {B : List Ex} : ∀ {us : List Int} {n : Nat} {ys : List Ex}, Trees K n ys us → Tree K 2 (n + ys.length) B → Trees K n (ys ++ B) (us ++ [((n + ys.length + B.length : Nat) : Int) - 1])
  | [], n, ys, h, hB => by
    have h : ys = [] := h
    subst h
    exact ⟨B, [], by simp, hB, by simp, rfl⟩
  | x :: r, n, ys, h, hB => by
    obtain ⟨A, C, rfl, hA, hx, hC⟩ := h
    have := Trees.snoc hC (B := B) (by simpa [Nat.add_assoc] using hB)
    exact ⟨A, C ++ B, by simp, hA, hx, by simpa [Nat.add_assoc] using this⟩
theorem Trees.known {K : List ByteArray} : ∀ {us : List Int} {n : Nat} {ys : List Ex}, Trees K n ys us → ∀ e ∈ ys, knownE K e = true
  | [], n, ys, h => by
    have h : ys = [] := h
    subst h
    simp
  | x :: r, n, ys, h => by
    obtain ⟨A, C, rfl, hA, _, hC⟩ := h
    intro e he
    rcases List.mem_append.1 he with he | he
    · exact hA.known e he
    · exact Trees.known hC e he
theorem Trees.spans {K : List ByteArray} (hK : ∀ s ∈ K, gSym s.data.toList = true) : ∀ {us : List Int} {n : Nat} {ys : List Ex}, Trees K n ys us → ∀ (S : List Sp), S.length = n →
    ∃ T, T.length = ys.length ∧ (∀ r, spansGo S (ys ++ r) = spansGo (S ++ T) r) ∧ ∀ U, argsGo (S ++ T ++ U) us n = some (n + ys.length)
  | [], n, ys, h, S, hS => by
    have h : ys = [] := h
    subst h
    exact ⟨[], rfl, by simp, fun U => rfl⟩
  | x :: r, n, ys, h, S, hS => by
    obtain ⟨A, C, rfl, hA, hx, hC⟩ := h
    obtain ⟨TA, m, hl, _, hg⟩ := hA.spans hK (by decide) S hS
    obtain ⟨T, hT, hgT, hU⟩ := Trees.spans hK hC (S ++ TA ++ [(n, m)]) (by simp; omega)
    refine ⟨TA ++ [(n, m)] ++ T, by simp; omega, fun q => ?_, fun U => ?_⟩
    · rw [List.append_assoc, hg, hgT]
      simp only [List.append_assoc]
    · have hp := hA.pos
      have hxn : x.toNat = n + A.length - 1 := by omega
      have e1 : S ++ (TA ++ [(n, m)] ++ T) ++ U = S ++ TA ++ [(n, m)] ++ (T ++ U) := by simp
      have e2 : S ++ (TA ++ [(n, m)] ++ T) ++ U = S ++ TA ++ [(n, m)] ++ T ++ U := by simp
      have hget : (S ++ (TA ++ [(n, m)] ++ T) ++ U)[x.toNat]? = some (n, m) := by
        rw [e1, List.getElem?_append_left (by simp; omega)]
        exact get_snoc _ _ _ (by simp; omega)
      have hlen : x < ((S ++ (TA ++ [(n, m)] ++ T) ++ U).length : Int) := by simp; omega
      have := hU U
      rw [← e2] at this
      unfold argsGo
      rw [hget, if_pos (by simp only [Option.getD_some, Bool.and_eq_true, decide_eq_true_eq]; exact ⟨by omega, hlen, trivial⟩), show x.toNat + 1 = n + A.length by omega, this]
      simp
      omega

/-- Actions that were drawn, with all exprs that are theirs. -/
def ActsT (K : List ByteArray) (pos : Nat) : Nat → List Ex → List Ac → Prop
  | _, ys, [] => ys = []
  | n, ys, a :: r => ∃ A B, ys = A ++ B ∧ Trees K n A a.args ∧ (fieldsOk a = true ∧ a.args.length ≤ 6 ∧ refOk pos a = true) ∧ ActsT K pos (n + A.length) B r
theorem ActsT.snoc {K : List ByteArray} {pos : Nat} {B : List Ex} {a : Ac} (ha : fieldsOk a = true ∧ a.args.length ≤ 6 ∧ refOk pos a = true) : ∀ {us : List Ac} {n : Nat} {ys : List Ex}, ActsT K pos n ys us → Trees K (n + ys.length) B a.args → ActsT K pos n (ys ++ B) (us ++ [a])
  | [], n, ys, h, hB => by
    have h : ys = [] := h
    subst h
    exact ⟨B, [], by simp, hB, ha, rfl⟩
  | x :: r, n, ys, h, hB => by
    obtain ⟨A, C, rfl, hA, hx, hC⟩ := h
    have := ActsT.snoc ha hC (B := B) (by simpa [Nat.add_assoc] using hB)
    exact ⟨A, C ++ B, by simp, hA, hx, this⟩
theorem ActsT.known {K : List ByteArray} {pos : Nat} : ∀ {us : List Ac} {n : Nat} {ys : List Ex}, ActsT K pos n ys us → ∀ e ∈ ys, knownE K e = true
  | [], n, ys, h => by
    have h : ys = [] := h
    subst h
    simp
  | x :: r, n, ys, h => by
    obtain ⟨A, C, rfl, hA, _, hC⟩ := h
    intro e he
    rcases List.mem_append.1 he with he | he
    · exact hA.known e he
    · exact ActsT.known hC e he
theorem ActsT.refs {K : List ByteArray} {pos : Nat} : ∀ {us : List Ac} {n : Nat} {ys : List Ex}, ActsT K pos n ys us → ∀ a ∈ us, refOk pos a = true
  | [], n, ys, h => by simp
  | x :: r, n, ys, h => by
    obtain ⟨A, C, rfl, hA, hx, hC⟩ := h
    intro a ha
    rcases List.mem_cons.1 ha with rfl | ha
    · exact hx.2.2
    · exact ActsT.refs hC a ha
theorem ActsT.spans {K : List ByteArray} {pos : Nat} (hK : ∀ s ∈ K, gSym s.data.toList = true) : ∀ {us : List Ac} {n : Nat} {ys : List Ex}, ActsT K pos n ys us → ∀ (S : List Sp), S.length = n →
    ∃ T, T.length = ys.length ∧ spansGo S ys = S ++ T ∧ ∀ k, actsGo (S ++ T) us n k = none
  | [], n, ys, h, S, hS => by
    have h : ys = [] := h
    subst h
    exact ⟨[], rfl, by simp [spansGo], fun k => by simp [actsGo, hS]⟩
  | x :: r, n, ys, h, S, hS => by
    obtain ⟨A, C, rfl, hA, hx, hC⟩ := h
    obtain ⟨TA, hl, hg, hU⟩ := hA.spans hK S hS
    obtain ⟨T, hT, hgT, hk⟩ := ActsT.spans hK hC (S ++ TA) (by simp; omega)
    refine ⟨TA ++ T, by simp; omega, ?_, fun k => ?_⟩
    · rw [hg, hgT, List.append_assoc]
    · rw [← List.append_assoc]
      have : gAc (S ++ TA ++ T) x n = some (n + A.length) := by
        unfold gAc
        rw [if_pos (by simp only [Bool.and_eq_true, decide_eq_true_eq]; exact ⟨hx.1, hx.2.1⟩)]
        exact hU T
      simp only [actsGo, this]
      exact hk (k + 1)

theorem fbNone {α : Type} {f : α → Bool} : ∀ {l : List α} {k : Nat}, (∀ x ∈ l, f x = true) → firstBad f l k = none
  | [], k, _ => rfl
  | x :: r, k, h => by
    simp only [firstBad, h x (by simp), if_true]
    exact fbNone (fun y hy => h y (by simp [hy]))
theorem termsGo_snoc {t : Tm} : ∀ {ts : List Tm} {h0 here : List ByteArray}, termsGo ts h0 = some here → (asks t = true → memB t.var here = true) → termsGo (ts ++ [t]) h0 = some (if t.kind == 2 then here ++ [t.var] else here)
  | [], h0, here, h, ht => by
    injection h with h
    subst h
    have hc : (asks t && !memB t.var h0) = false := by
      cases ha : asks t
      · rfl
      · simp [ht ha]
    simp only [List.nil_append, termsGo, hc]
    rfl
  | x :: r, h0, here, h, ht => by
    simp only [List.cons_append, termsGo] at h ⊢
    split at h
    · cases h
    · rename_i hc
      rw [if_neg hc]
      exact termsGo_snoc h ht
theorem patsGo_snoc {p : Pt} {here : List ByteArray} : ∀ {ps : List Pt} {k0 kn : List ByteArray} {k : Nat}, patsGo ps k0 k = .inr kn → termsGo p.terms kn = some here → patsGo (ps ++ [p]) k0 k = .inr (if p.neg then kn else here)
  | [], k0, kn, k, h, ht => by
    injection h with h
    subst h
    simp only [List.nil_append, patsGo, ht]
  | x :: r, k0, kn, k, h, ht => by
    simp only [List.cons_append, patsGo] at h ⊢
    split at h
    · cases h
    · rename_i hh he
      first
      | exact patsGo_snoc h ht
      | (rw [he]; exact patsGo_snoc h ht)
/-- A rule that was drawn, with the words that are known behind its patterns. -/
structure Drawn (K : List ByteArray) (pos : Nat) (r : Ru) : Prop where
  name : gSym r.name.data.toList = true
  pats : r.pats.length ≤ 6
  good : ∀ p ∈ r.pats, gPt p = true
  known : patsGo r.pats [] 1 = .inr K
  words : ∀ s ∈ K, gSym s.data.toList = true
  count : positives r.pats = pos
  npos : 1 ≤ pos ∧ pos ≤ 3
  acts : r.acts.length ≤ 8
  exprs : r.exprs.length ≤ 60
  trees : ActsT K pos 0 r.exprs r.acts
theorem Drawn.chk1 {K : List ByteArray} {pos : Nat} {r : Ru} (h : Drawn K pos r) {pre : List Ru} (hp : ∀ o ∈ pre, o.name ≠ r.name) : chk1 pre r = (0, 0) := by
  obtain ⟨T, hT, hg, hk⟩ := h.trees.spans h.words [] rfl
  have hs : shape r = none := by
    unfold shape
    rw [if_pos (by simp only [headOk, Bool.and_eq_true, decide_eq_true_eq]; exact ⟨h.name, h.pats, h.acts, h.exprs⟩), fbNone h.good]
    rw [List.nil_append] at hg hk
    show (if _ then _ else _) = none
    rw [hg, if_neg (by omega)]
    exact hk 1
  have ha : pre.any (fun o => decide (o.name = r.name)) = false := by
    rw [List.any_eq_false]
    intro o ho
    simp [hp o ho]
  have hsc : scope r = none := by
    unfold scope
    rw [h.known]
    refine fbNone fun a _ => ?_
    simp only [actVar, Bool.or_eq_true]
    exact .inr (List.all_eq_true.2 fun e he => h.trees.known e (List.mem_of_mem_take he))
  have hrf : refs r = none := by
    unfold refs
    rw [h.count]
    exact fbNone h.trees.refs
  unfold Go.Proofs.YtgkoiojelckblaaGreatDoor.chk1
  rw [hs]
  show (if _ then _ else if _ then _ else _) = _
  rw [ha, if_neg (by simp), if_pos (by rw [h.count]; exact h.npos), hsc, hrf]
/-- The name of the k-th rule that was drawn. -/
def nmK (k : Nat) : ByteArray := ⟨#[114, (UInt8.ofNat (48 + k))]⟩
theorem nmK_good (k : Nat) (h : k < 10) : gSym (nmK k).data.toList = true := by
  have : ∀ k : Fin 10, gSym (nmK k.val).data.toList = true := by decide
  exact this ⟨k, h⟩
theorem nmK_ne (i j : Nat) (hi : i < 10) (hj : j < 10) (h : i ≠ j) : nmK i ≠ nmK j := by
  have : ∀ i j : Fin 10, i ≠ j → nmK i.val ≠ nmK j.val := by decide
  exact this ⟨i, hi⟩ ⟨j, hj⟩ (fun e => h (by injection e))
def DRu (k : Nat) (r : Ru) : Prop := r.name = nmK k ∧ ∃ K pos, Drawn K pos r
theorem chkGo_drawn : ∀ {s pre : List Ru} {k : Nat}, (∀ (i : Nat) (r : Ru), (pre ++ s)[i]? = some r → DRu i r) → (pre ++ s).length ≤ 10 → chkGo pre s k = (0, 0, 0)
  | [], pre, k, _, _ => rfl
  | r :: s, pre, k, h, hl => by
    obtain ⟨hn, K, pos, hr⟩ := h pre.length r (by simp)
    simp at hl
    have : chk1 pre r = (0, 0) := hr.chk1 fun o ho => by
      obtain ⟨i, hi, rfl⟩ := List.mem_iff_getElem.1 ho
      rw [(h i pre[i] (by rw [List.getElem?_append_left hi]; simp)).1, hn]
      exact nmK_ne _ _ (by omega) (by omega) (by omega)
    unfold chkGo
    rw [this, if_pos rfl]
    exact chkGo_drawn (by simpa using h) (by simp; omega)
theorem chk_drawn {rs : List Ru} (h : ∀ (i : Nat) (r : Ru), rs[i]? = some r → DRu i r) (hl : rs.length ≤ 10) : chk rs = (0, 0, 0) := by
  unfold chk
  rw [if_pos (by omega)]
  exact chkGo_drawn (pre := []) (by simpa using h) (by simpa using hl)
end Go.Proofs.YtgkoiojelckblaaGreatDoor

/-
  OUR OWN TEXT. Printed and parsed again: the words of a text.
-/
import Derived.Test.YtgkoiojelckblaaGreatDoorKbk
namespace Go.Proofs.YtgkoiojelckblaaGreatDoor

/-- The words of bytes, from a place on. -/
def wds (l : Bs) (k : Nat) : List Wd := wordsGo (l.length + 1) l k
theorem wordsOf_wds (s : Bs) : wordsOf s = wds s 0 := by
  unfold wordsOf wordsAt wds
  simp
theorem wds_blank {b : UInt8} (r : Bs) (k : Nat) (h : blankB b = true) : wds (b :: r) k = wds r (k + 1) := by
  unfold wds
  rw [List.length_cons, wordsGo, if_pos h]
theorem wds_open (r : Bs) (k : Nat) : wds (40 :: r) k = ⟨1, k, [], 0⟩ :: wds r (k + 1) := by
  unfold wds
  rw [List.length_cons, wordsGo, if_neg (by decide), if_neg (by decide), if_pos rfl]
theorem wds_close (r : Bs) (k : Nat) : wds (41 :: r) k = ⟨2, k, [], 0⟩ :: wds r (k + 1) := by
  unfold wds
  rw [List.length_cons, wordsGo, if_neg (by decide), if_neg (by decide), if_neg (by decide), if_pos rfl]
/-- No word goes on here. -/
def Brk (r : Bs) : Prop := ∀ b s, r = b :: s → wordB b = false
theorem Brk.cons {b : UInt8} (r : Bs) (h : wordB b = false) : Brk (b :: r) := fun c s e => by
  injection e with e _
  rw [← e]
  exact h
theorem Brk.nil : Brk [] := fun b s e => by cases e
theorem take_words : ∀ {t r : Bs}, t.all wordB = true → Brk r → (t ++ r).takeWhile wordB = t
  | [], r, _, hr => by
    cases r with
    | nil => rfl
    | cons b s => simp [hr b s rfl]
  | b :: t, r, h, hr => by
    rw [List.all_cons, Bool.and_eq_true] at h
    rw [List.cons_append, List.takeWhile_cons, if_pos h.1, take_words h.2 hr]
theorem wordB_ne {b : UInt8} (h : wordB b = true) : blankB b = false ∧ b ≠ 59 ∧ b ≠ 40 ∧ b ≠ 41 ∧ ¬ (b.toNat < 33 ∨ 126 < b.toNat) := by
  unfold wordB at h
  simp only [Bool.and_eq_true, decide_eq_true_eq] at h
  obtain ⟨h1, h2, h3, h4, h5⟩ := h
  refine ⟨?_, h5, h3, h4, by omega⟩
  unfold blankB
  have e1 : b ≠ 32 := fun e => by rw [e] at h1; exact absurd h1 (by decide)
  have e2 : b ≠ 9 := fun e => by rw [e] at h1; exact absurd h1 (by decide)
  have e3 : b ≠ 10 := fun e => by rw [e] at h1; exact absurd h1 (by decide)
  have e4 : b ≠ 13 := fun e => by rw [e] at h1; exact absurd h1 (by decide)
  simp [e1, e2, e3, e4]
theorem wds_word {t : Bs} (r : Bs) (k : Nat) (h0 : t ≠ []) (hw : t.all wordB = true) (hr : Brk r) : wds (t ++ r) k = ⟨mkind t, k, t, mnum t⟩ :: wds r (k + t.length) := by
  cases t with
  | nil => exact absurd rfl h0
  | cons b s =>
    have hb : wordB b = true := by
      rw [List.all_cons, Bool.and_eq_true] at hw
      exact hw.1
    obtain ⟨e1, e2, e3, e4, e5⟩ := wordB_ne hb
    have htw := take_words hw hr
    have hrun : runOf wordB (b :: s ++ r) = (b :: s).length := by unfold runOf; rw [htw]
    show wordsGo ((b :: s ++ r).length + 1) (b :: s ++ r) k = _
    rw [List.cons_append, List.length_cons, wordsGo, if_neg (by rw [e1]; decide), if_neg e2, if_neg e3, if_neg e4, if_neg e5]
    rw [← List.cons_append, htw, hrun]
    congr 1
    rw [List.drop_left]
    exact wordsGo_fuel _ _ _ _ (by simp; omega) (by omega)
/-- A text that is one word: its kind, what is kept of it, its number. -/
structure Tok (t : Bs) (K : Int) (P : Bs) (n : Int) : Prop where
  ne : t ≠ []
  w : t.all wordB = true
  k : pkind t = K
  p : ptext t = P
  n : mnum t = n
  ok : mkind t ≠ 8
theorem Tok.next {t : Bs} {K : Int} {P : Bs} {n : Int} (h : Tok t K P n) (r : Bs) (k : Nat) (hr : Brk r) : ∃ x : Wd, nextW (wds (t ++ r) k) = .ok (x, wds r (k + t.length)) ∧ pkW x = K ∧ ptW x = P ∧ x.num = n := by
  obtain ⟨n0, n1, n2, n7⟩ := mkind_ne t
  refine ⟨⟨mkind t, k, t, mnum t⟩, ?_, ?_, ?_, h.n⟩
  · rw [wds_word r k h.ne h.w hr]
    simp [nextW, badW, n7, h.ok, n0]
  · simp [pkW, n0, n1, n2, h.k]
  · simp [ptW, n0, n1, n2, h.p]
theorem Tok.take {t : Bs} {K : Int} {P : Bs} {n : Int} (h : Tok t K P n) (r : Bs) (k : Nat) (hr : Brk r) : ∃ x : Wd, takeW K (wds (t ++ r) k) = .ok (x, wds r (k + t.length)) ∧ pkW x = K ∧ ptW x = P ∧ x.num = n := by
  obtain ⟨x, h1, h2, h3, h4⟩ := h.next r k hr
  refine ⟨x, ?_, h2, h3, h4⟩
  unfold takeW
  rw [h1]
  simp only [h2, if_true]
theorem next_open (r : Bs) (k : Nat) : nextW (wds (40 :: r) k) = .ok (⟨1, k, [], 0⟩, wds r (k + 1)) := by
  rw [wds_open]
  rfl
theorem next_close (r : Bs) (k : Nat) : nextW (wds (41 :: r) k) = .ok (⟨2, k, [], 0⟩, wds r (k + 1)) := by
  rw [wds_close]
  rfl
theorem take_open (r : Bs) (k : Nat) : takeW 40 (wds (40 :: r) k) = .ok (⟨1, k, [], 0⟩, wds r (k + 1)) := by
  unfold takeW
  rw [next_open]
  rfl
theorem take_close (r : Bs) (k : Nat) : takeW 41 (wds (41 :: r) k) = .ok (⟨2, k, [], 0⟩, wds r (k + 1)) := by
  unfold takeW
  rw [next_close]
  rfl
theorem all_bytes {P : UInt8 → Bool} (h : ((List.range 256).all fun n => P (UInt8.ofNat n)) = true) (b : UInt8) : P b = true := by
  rw [List.all_eq_true] at h
  have := h b.toNat (List.mem_range.2 b.toNat_lt)
  simpa using this
theorem byteC_word {b : UInt8} (h : byteC b = true) : wordB b = true := by
  have := all_bytes (P := fun b => !byteC b || wordB b) (by kernel_rfl) b
  simpa [h] using this
theorem byteL_dg {b : UInt8} (h : byteL b = true) : isDg b = false ∧ b ≠ 45 ∧ b ≠ 63 := by
  have := all_bytes (P := fun b => !byteL b || (!isDg b && (decide (b ≠ 45) && decide (b ≠ 63)))) (by kernel_rfl) b
  simpa [h] using this
theorem numOf_head {b : UInt8} {s : Bs} (h : isDg b = false) (h45 : b ≠ 45) : numOf (b :: s) = none := by
  apply numOf_bad2
  unfold stripM
  rw [if_neg (by simpa using h45)]
  simp [h]
theorem gSym_cases {t : Bs} (h : gSym t = true) : ∃ b s, t = b :: s ∧ byteL b = true ∧ t.all byteC = true := by
  unfold gSym at h
  simp only [Bool.and_eq_true, decide_eq_true_eq] at h
  obtain ⟨⟨⟨h1, _⟩, h3⟩, h4⟩ := h
  cases t with
  | nil => simp at h1
  | cons b s => exact ⟨b, s, rfl, h3, h4⟩
theorem all_words {t : Bs} (h : t.all byteC = true) : t.all wordB = true := by
  rw [List.all_eq_true] at h ⊢
  exact fun x hx => byteC_word (h x hx)
theorem Tok.sym {t : Bs} (h : gSym t = true) : Tok t 97 t 0 := by
  obtain ⟨b, s, rfl, h1, h2⟩ := gSym_cases h
  obtain ⟨d1, d2, d3⟩ := byteL_dg h1
  have hn := numOf_head (s := s) d1 d2
  refine ⟨by simp, all_words h2, ?_, ?_, ?_, ?_⟩
  · simp [pkind, hn, h]
  · simp [ptext, hn, h]
  · simp [mnum, hn]
  · have hv : isVarW (b :: s) = false := by simp [isVarW, d3]
    simp [mkind, hn, h, hv]
theorem Tok.var {s : Bs} (h : gSym s = true) : Tok (63 :: s) 63 s 0 := by
  obtain ⟨b, u, rfl, h1, h2⟩ := gSym_cases h
  have hn : numOf (63 :: b :: u) = none := numOf_head (by decide) (by decide)
  have hg : gSym (63 :: b :: u) = false := by
    have : byteL 63 = false := by decide
    simp [gSym, this]
  have hv : isVarW (63 :: b :: u) = true := by simp [isVarW, h]
  refine ⟨by simp, ?_, ?_, ?_, ?_, ?_⟩
  · rw [List.all_cons, all_words h2]
    decide
  · simp [pkind, hn, hg, hv]
  · simp [ptext, hn, hg, hv]
  · simp [mnum, hn]
  · simp [mkind, hn, hv]
theorem isDg_word {b : UInt8} (h : isDg b = true) : wordB b = true := by
  have := all_bytes (P := fun b => !isDg b || wordB b) (by kernel_rfl) b
  simpa [h] using this
theorem itoa_words (n : Int) : Lib.itoa n ≠ [] ∧ (Lib.itoa n).all wordB = true := by
  have hd : ∀ u : Nat, (Lib.decDigits u).all wordB = true := fun u => by
    have := digits_all u
    rw [List.all_eq_true] at this ⊢
    exact fun x hx => isDg_word (this x hx)
  by_cases h : n < 0
  · rw [itoa_neg' h]
    refine ⟨by simp, ?_⟩
    rw [List.all_cons, hd]
    decide
  · rw [itoa_pos h]
    exact ⟨digits_ne _, hd _⟩
theorem Tok.num {n : Int} (h : numOk n) : Tok (Lib.itoa n) 48 [] n := by
  have hn := numOf_itoa h
  obtain ⟨h1, h2⟩ := itoa_words n
  refine ⟨h1, h2, ?_, ?_, ?_, ?_⟩
  · simp [pkind, hn]
  · simp [ptext, hn]
  · simp [mnum, hn]
  · simp [mkind, hn]
theorem tok_other {t : Bs} {K : Int} {P : Bs} (h0 : t ≠ []) (hw : t.all wordB = true) (hn : numOf t = none) (hg : gSym t = false) (hv : isVarW t = false) (hk : (if testIx t ≠ 0 then 61 else if t ∈ arTx then 43 else if t = [95] then 95 else if t = [61, 62] then 62 else -1 : Int) = K) (hp : (if testIx t ≠ 0 then t else if t ∈ arTx then t else []) = P) (ho : isOtherW t = true) : Tok t K P 0 := by
  refine ⟨h0, hw, ?_, ?_, by simp [mnum, hn], ?_⟩
  · simp only [pkind, hn, hg, hv]
    simpa using hk
  · simp only [ptext, hn, hg, hv]
    simpa using hp
  · simp [mkind, hn, hg, hv, ho]
theorem Tok.test {i : Nat} (h : i < 6) : Tok (opTx.getD i []) 61 (opTx.getD i []) 0 ∧ testIx (opTx.getD i []) = i + 1 := by
  rcases i with _ | _ | _ | _ | _ | _ | i
  · exact ⟨tok_other (by decide) (by decide) (numOf_head (by decide) (by decide)) (by decide) (by decide) (by decide) (by decide) (by decide), by decide⟩
  · exact ⟨tok_other (by decide) (by decide) (numOf_head (by decide) (by decide)) (by decide) (by decide) (by decide) (by decide) (by decide), by decide⟩
  · exact ⟨tok_other (by decide) (by decide) (numOf_head (by decide) (by decide)) (by decide) (by decide) (by decide) (by decide) (by decide), by decide⟩
  · exact ⟨tok_other (by decide) (by decide) (numOf_head (by decide) (by decide)) (by decide) (by decide) (by decide) (by decide) (by decide), by decide⟩
  · exact ⟨tok_other (by decide) (by decide) (numOf_head (by decide) (by decide)) (by decide) (by decide) (by decide) (by decide) (by decide), by decide⟩
  · exact ⟨tok_other (by decide) (by decide) (numOf_head (by decide) (by decide)) (by decide) (by decide) (by decide) (by decide) (by decide), by decide⟩
  · omega
theorem Tok.und : Tok [95] 95 [] 0 := tok_other (by decide) (by decide) (numOf_head (by decide) (by decide)) (by decide) (by decide) (by decide) (by decide) (by decide)
theorem Tok.to : Tok [61, 62] 62 [] 0 := tok_other (by decide) (by decide) (numOf_head (by decide) (by decide)) (by decide) (by decide) (by decide) (by decide) (by decide)
theorem Tok.ar {op : Int} (h : isAr op = true) : Tok [UInt8.ofNat op.toNat] 43 [UInt8.ofNat op.toNat] 0 ∧ (((UInt8.ofNat op.toNat).toNat : Int)) = op := by
  have hc : op = 43 ∨ op = 45 ∨ op = 42 ∨ op = 47 ∨ op = 37 := by
    unfold isAr at h
    simpa using h
  rcases hc with rfl | rfl | rfl | rfl | rfl
  · exact ⟨tok_other (by decide) (by decide) (numOf_head (by decide) (by decide)) (by decide) (by decide) (by decide) (by decide) (by decide), by decide⟩
  · exact ⟨tok_other (by decide) (by decide) (numOf_bad1 (by decide) (.inl (by decide))) (by decide) (by decide) (by decide) (by decide) (by decide), by decide⟩
  · exact ⟨tok_other (by decide) (by decide) (numOf_head (by decide) (by decide)) (by decide) (by decide) (by decide) (by decide) (by decide), by decide⟩
  · exact ⟨tok_other (by decide) (by decide) (numOf_head (by decide) (by decide)) (by decide) (by decide) (by decide) (by decide) (by decide), by decide⟩
  · exact ⟨tok_other (by decide) (by decide) (numOf_head (by decide) (by decide)) (by decide) (by decide) (by decide) (by decide) (by decide), by decide⟩
theorem Tok.val {v : V} (h : gVal v = true) (hn : numOk v.num) : (Tok (txV v) 48 [] v.num ∧ v = wVal 48 v.num []) ∨ (Tok (txV v) 97 (bsOf v.sym) 0 ∧ v = wVal 97 0 (bsOf v.sym)) := by
  obtain ⟨k, n, s⟩ := v
  have hv : gVal (k, n, s) = ((k == 0 && s.toList.isEmpty) || (k == 1 && (n == 0 && gSym s.data.toList))) := rfl
  rw [hv] at h
  by_cases hk : k = 1
  · subst hk
    simp at h
    obtain ⟨h1, h2⟩ := h
    subst h1
    refine .inr ⟨?_, ?_⟩
    · exact Tok.sym h2
    · show ((1 : Int), (0 : Int), s) = (1, 0, mkS (bsOf s))
      rw [mkS_bs]
  · have h0 : k = 0 ∧ s.toList.isEmpty = true := by
      simp [hk] at h
      exact ⟨h.1, by simpa using h.2⟩
    obtain ⟨rfl, hs⟩ := h0
    have he : s = mkS [] := by
      have : bsOf s = [] := by
        have e : s.data.toList = s.toList := (ByteArray.toList_eq _).symm
        show s.data.toList = []
        rw [e]
        simpa using hs
      rw [← mkS_bs s, this]
    subst he
    exact .inl ⟨Tok.num hn, rfl⟩
end Go.Proofs.YtgkoiojelckblaaGreatDoor

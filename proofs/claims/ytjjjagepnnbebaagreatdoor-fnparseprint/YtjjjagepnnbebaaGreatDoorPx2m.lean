/-
  OUR OWN TEXT. What the words of a text are: the plain mathematics.
-/
import Derived.Test.YtjjjagepnnbebaaGreatDoorKav
namespace Go.Proofs.YtjjjagepnnbebaaGreatDoor

/-- Words with an end behind them, and none but there. -/
def WsOk (l : List Wd) : Prop := ∃ (pre : List Wd) (e : Wd), l = pre ++ [e] ∧ e.kind = 0 ∧ ∀ x ∈ pre, x.kind ≠ 0
theorem WsOk.cons {l : List Wd} {x : Wd} (h : WsOk l) (hx : x.kind ≠ 0) : WsOk (x :: l) := by
  obtain ⟨pre, e, h1, h2, h3⟩ := h
  refine ⟨x :: pre, e, by rw [h1]; rfl, h2, fun y hy => ?_⟩
  rcases List.mem_cons.1 hy with rfl | hy
  · exact hx
  · exact h3 y hy
theorem WsOk.tail {l : List Wd} {x : Wd} (h : WsOk (x :: l)) (hx : x.kind ≠ 0) : WsOk l := by
  obtain ⟨pre, e, h1, h2, h3⟩ := h
  cases pre with
  | nil =>
    simp at h1
    exact absurd (by rw [h1.1]; exact h2) hx
  | cons y pre =>
    simp at h1
    exact ⟨pre, e, h1.2, h2, fun z hz => h3 z (List.mem_cons_of_mem _ hz)⟩
theorem WsOk.ne {l : List Wd} (h : WsOk l) : l ≠ [] := by
  obtain ⟨pre, e, h1, _⟩ := h
  rw [h1]
  simp
theorem wordsGo_ok : ∀ (n : Nat) (l : Bs) (k : Nat), l.length < n → (∀ x ∈ wordsGo n l k, WdOk x ∧ x.text.length ≤ l.length) ∧ WsOk (wordsGo n l k) := by
  intro n
  induction n with
  | zero => intro l k h; omega
  | succ n ih =>
    intro l k hn
    cases l with
    | nil =>
      refine ⟨fun x hx => ?_, [], ⟨0, k, [], 0⟩, rfl, rfl, fun x hx => by simp at hx⟩
      simp [wordsGo] at hx
      subst hx
      exact ⟨.inl ⟨rfl, rfl, .inl rfl⟩, by simp⟩
    | cons b r =>
      have hr : r.length < n := by simp at hn; omega
      have lone : ∀ (kd : Int), (kd = 1 ∨ kd = 2 ∨ kd = 7) → (∀ x ∈ (⟨kd, k, [], 0⟩ :: wordsGo n r (k + 1) : List Wd), WdOk x ∧ x.text.length ≤ (b :: r).length) ∧ WsOk (⟨kd, k, [], 0⟩ :: wordsGo n r (k + 1)) := by
        intro kd hk
        obtain ⟨h1, h2⟩ := ih r (k + 1) hr
        refine ⟨fun x hx => ?_, h2.cons ?_⟩
        · rcases List.mem_cons.1 hx with rfl | hx
          · exact ⟨.inl ⟨rfl, rfl, .inr hk⟩, by simp⟩
          · obtain ⟨h3, h4⟩ := h1 x hx
            exact ⟨h3, by simp; omega⟩
        · show kd ≠ 0
          omega
      unfold wordsGo
      by_cases h1 : blankB b = true
      · rw [if_pos h1]
        obtain ⟨h2, h3⟩ := ih r (k + 1) hr
        exact ⟨fun x hx => ⟨(h2 x hx).1, by have := (h2 x hx).2; simp; omega⟩, h3⟩
      rw [if_neg h1]
      by_cases h2 : b = 59
      · rw [if_pos h2]
        have hp : 1 ≤ runOf lineP (b :: r) := run_pos (by rw [h2]; exact line59)
        have hd : ((b :: r).drop (runOf lineP (b :: r))).length < n := by rw [List.length_drop]; simp only [List.length_cons] at *; omega
        obtain ⟨h3, h4⟩ := ih _ (k + runOf lineP (b :: r)) hd
        exact ⟨fun x hx => ⟨(h3 x hx).1, by have := (h3 x hx).2; rw [List.length_drop] at this; omega⟩, h4⟩
      rw [if_neg h2]
      by_cases h3 : b = 40
      · rw [if_pos h3]
        exact lone 1 (.inl rfl)
      rw [if_neg h3]
      by_cases h4 : b = 41
      · rw [if_pos h4]
        exact lone 2 (.inr (.inl rfl))
      rw [if_neg h4]
      by_cases h5 : b.toNat < 33 ∨ 126 < b.toNat
      · rw [if_pos h5]
        exact lone 7 (.inr (.inr rfl))
      rw [if_neg h5]
      have hp : 1 ≤ runOf wordB (b :: r) := run_pos (wordB_of h2 h3 h4 h5)
      have hd : ((b :: r).drop (runOf wordB (b :: r))).length < n := by rw [List.length_drop]; simp only [List.length_cons] at *; omega
      obtain ⟨h6, h7⟩ := ih _ (k + runOf wordB (b :: r)) hd
      refine ⟨fun x hx => ?_, h7.cons (mkind_ne _).1⟩
      rcases List.mem_cons.1 hx with rfl | hx
      · exact ⟨.inr ⟨rfl, rfl⟩, run_le wordB (b :: r)⟩
      · exact ⟨(h6 x hx).1, by have := (h6 x hx).2; rw [List.length_drop] at this; omega⟩
theorem wordsAt_ok (s : Bs) (k : Nat) (hk : k ≤ s.length) : (∀ x ∈ wordsAt s k, WdOk x ∧ x.text.length ≤ s.length) ∧ WsOk (wordsAt s k) := by
  obtain ⟨h1, h2⟩ := wordsGo_ok (s.length + 1 - k) (s.drop k) k (by rw [List.length_drop]; omega)
  exact ⟨fun x hx => ⟨(h1 x hx).1, by have := (h1 x hx).2; rw [List.length_drop] at this; omega⟩, h2⟩
theorem nextW_mem {l r : List Wd} {x : Wd} (h : nextW l = .ok (x, r)) : x ∈ l := by
  cases l with
  | nil => cases h
  | cons y t =>
    unfold nextW at h
    cases hb : badW y with
    | some f => simp [hb] at h
    | none =>
      simp [hb] at h
      rw [h.1]
      exact List.mem_cons_self
theorem ptext_le (t : Bs) : (ptext t).length ≤ t.length := by
  unfold ptext
  repeat' split
  all_goals simp
theorem ptW_le (x : Wd) : (ptW x).length ≤ x.text.length := by
  unfold ptW
  repeat' split
  all_goals first | exact ptext_le _ | simp
end Go.Proofs.YtjjjagepnnbebaaGreatDoor

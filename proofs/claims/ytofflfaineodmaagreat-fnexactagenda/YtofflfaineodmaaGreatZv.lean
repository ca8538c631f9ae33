/-
  OUR OWN TEXT. Hp1, Ag1, one behind the other.
-/
import Derived.Test.YtofflfaineodmaaGreatProg
import Derived.Test.YtofflfaineodmaaGreatZi
namespace Go.Proofs.YtofflfaineodmaaGreat

/-- A strict order in which what is not apart is the same. -/
structure Strict {α : Type} (lt : α → α → Bool) : Prop where
  asym : ∀ a b, lt a b = true → lt b a = false
  trans : ∀ a b c, lt a b = true → lt b c = true → lt a c = true
  same : ∀ a b, lt a b = false → lt b a = false → a = b
theorem Strict.le_trans {α : Type} {lt : α → α → Bool} (h : Strict lt) {a b c : α} (h1 : lt b a = false) (h2 : lt c b = false) : lt c a = false := by
  cases hc : lt c a with
  | false => rfl
  | true =>
    cases hb : lt a b with
    | true =>
      have := h.trans c a b hc hb
      rw [h2] at this
      exact this.symm
    | false =>
      have e := h.same a b hb h1
      subst e
      rw [h2] at hc
      exact hc.symm
theorem Strict.le_of_lt {α : Type} {lt : α → α → Bool} (h : Strict lt) {a b : α} (h1 : lt a b = true) : lt b a = false := h.asym a b h1
theorem Strict.irr {α : Type} {lt : α → α → Bool} (h : Strict lt) (a : α) : lt a a = false := by
  cases ha : lt a a with
  | false => rfl
  | true => exact ha.symm.trans (h.asym a a ha)
def swapF {α : Type} (f : Nat → α) (i j : Nat) : Nat → α := fun k => if k = i then f j else if k = j then f i else f k
def par (k : Nat) : Nat := (k - 1) / 2
/-- Nothing lies ahead of what lies above it. -/
def HeapF {α : Type} (lt : α → α → Bool) (f : Nat → α) (n : Nat) : Prop := ∀ k, k < n → 0 < k → lt (f k) (f (par k)) = false
/-- All but place j, which may have to go up. -/
structure UpF {α : Type} (lt : α → α → Bool) (f : Nat → α) (n j : Nat) : Prop where
  rest : ∀ k, k < n → 0 < k → k ≠ j → lt (f k) (f (par k)) = false
  kids : ∀ k, k < n → 0 < k → par k = j → 0 < j → lt (f k) (f (par j)) = false
/-- All but place i, which may have to go down. -/
structure DownF {α : Type} (lt : α → α → Bool) (f : Nat → α) (n i : Nat) : Prop where
  rest : ∀ k, k < n → 0 < k → par k ≠ i → lt (f k) (f (par k)) = false
  kids : ∀ k, k < n → 0 < k → par k = i → 0 < i → lt (f k) (f (par i)) = false
theorem par_lt {k : Nat} (h : 0 < k) : par k < k := by unfold par; omega
theorem HeapF.root {α : Type} {lt : α → α → Bool} (hs : Strict lt) {f : Nat → α} {n : Nat} (h : HeapF lt f n) : ∀ k, k < n → lt (f k) (f 0) = false := by
  intro k
  induction k using Nat.strongRecOn with
  | ind k ih =>
    intro hk
    rcases Nat.eq_zero_or_pos k with rfl | h0
    · exact hs.irr _
    · have h1 := par_lt h0
      exact hs.le_trans (ih (par k) h1 (by omega)) (h k hk h0)
theorem HeapF.snoc {α : Type} {lt : α → α → Bool} {f : Nat → α} {n : Nat} (h : HeapF lt f n) : UpF lt f (n + 1) n :=
  ⟨fun k hk h0 hne => h k (by omega) h0, fun k hk h0 hp _ => by have := par_lt h0; omega⟩
theorem UpF.done0 {α : Type} {lt : α → α → Bool} {f : Nat → α} {n : Nat} (h : UpF lt f n 0) : HeapF lt f n := fun k hk h0 => h.rest k hk h0 (by omega)
theorem UpF.done {α : Type} {lt : α → α → Bool} {f : Nat → α} {n j : Nat} (h : UpF lt f n j) (hl : lt (f j) (f (par j)) = false) : HeapF lt f n := fun k hk h0 => by
  by_cases e : k = j
  · subst e
    exact hl
  · exact h.rest k hk h0 e
theorem UpF.step {α : Type} {lt : α → α → Bool} (hs : Strict lt) {f : Nat → α} {n j : Nat} (h : UpF lt f n j) (hj : j < n) (h0 : 0 < j) (hl : lt (f j) (f (par j)) = true) : UpF lt (swapF f (par j) j) n (par j) := by
  have hpj := par_lt h0
  have hle := hs.le_of_lt hl
  refine ⟨fun k hk hk0 hne => ?_, fun k hk hk0 hp hp0 => ?_⟩
  · unfold swapF
    by_cases e : k = j
    · subst e
      rw [if_neg (by omega), if_pos rfl, if_pos rfl]
      exact hle
    · rw [if_neg hne, if_neg e]
      by_cases e1 : par k = par j
      · rw [if_pos e1]
        have h1 := h.rest k hk hk0 e
        rw [e1] at h1
        exact hs.le_trans hle h1
      · rw [if_neg e1]
        by_cases e2 : par k = j
        · rw [if_pos e2]
          exact h.kids k hk hk0 e2 h0
        · rw [if_neg e2]
          exact h.rest k hk hk0 e
  · have hpp := par_lt hp0
    unfold swapF
    rw [if_neg (show ¬ par (par j) = par j by omega), if_neg (show ¬ par (par j) = j by omega)]
    have hup := h.rest (par j) (by omega) hp0 (by omega)
    by_cases e : k = j
    · subst e
      rw [if_neg (by omega), if_pos rfl]
      exact hup
    · rw [if_neg (by have := par_lt hk0; omega), if_neg e]
      have h1 := h.rest k hk hk0 e
      rw [hp] at h1
      exact hs.le_trans hup h1
theorem DownF.start {α : Type} {lt : α → α → Bool} {f : Nat → α} {n : Nat} (h : HeapF lt f (n + 1)) : DownF lt (swapF f 0 n) n 0 := by
  refine ⟨fun k hk h0 hp => ?_, fun k hk h0 hp h00 => absurd h00 (by omega)⟩
  have := par_lt h0
  unfold swapF
  rw [if_neg (by omega), if_neg (by omega), if_neg hp, if_neg (by omega)]
  exact h k (by omega) h0
theorem DownF.done {α : Type} {lt : α → α → Bool} {f : Nat → α} {n i : Nat} (h : DownF lt f n i) (hl : ∀ k, k < n → 0 < k → par k = i → lt (f k) (f i) = false) : HeapF lt f n := fun k hk h0 => by
  by_cases e : par k = i
  · rw [e]
    exact hl k hk h0 e
  · exact h.rest k hk h0 e
theorem DownF.step {α : Type} {lt : α → α → Bool} (hs : Strict lt) {f : Nat → α} {n i j : Nat} (h : DownF lt f n i) (hj : j < n) (h0 : 0 < j) (hp : par j = i) (hm : ∀ k, k < n → 0 < k → par k = i → lt (f k) (f j) = false) (hl : lt (f j) (f i) = true) : DownF lt (swapF f i j) n j := by
  have hij : i < j := by rw [← hp]; exact par_lt h0
  have hle := hs.le_of_lt hl
  refine ⟨fun k hk hk0 hne => ?_, fun k hk hk0 hpk hj0 => ?_⟩
  · have hpk := par_lt hk0
    unfold swapF
    by_cases e : k = i
    · subst e
      rw [if_pos rfl, if_neg (by omega), if_neg (by omega)]
      exact h.kids j hj h0 hp (by omega)
    · rw [if_neg e]
      by_cases e1 : k = j
      · subst e1
        rw [if_pos rfl, hp, if_pos rfl]
        exact hle
      · rw [if_neg e1]
        by_cases e2 : par k = i
        · rw [if_pos e2]
          exact hm k hk hk0 e2
        · rw [if_neg e2, if_neg hne]
          exact h.rest k hk hk0 e2
  · have hpk' := par_lt hk0
    unfold swapF
    rw [if_neg (by omega), if_neg (by omega), hp, if_pos rfl]
    have h1 := h.rest k hk hk0 (by omega)
    rw [hpk] at h1
    exact h1
def swapN (i j k : Nat) : Nat := if k = i then j else if k = j then i else k
theorem swapF_eq {α : Type} (f : Nat → α) (i j k : Nat) : swapF f i j k = f (swapN i j k) := by
  unfold swapF swapN
  split
  · rfl
  · split <;> rfl
theorem swapN_ne {i j a b : Nat} (h : a ≠ b) : swapN i j a ≠ swapN i j b := by
  unfold swapN
  repeat' split
  all_goals omega
theorem swap_map {α : Type} (f : Nat → α) {n i j : Nat} (hi : i < n) (hj : j < n) : ((List.range n).map (swapF f i j)).Perm ((List.range n).map f) := by
  have e : (List.range n).map (swapF f i j) = ((List.range n).map (swapN i j)).map f := by
    rw [List.map_map]
    exact List.map_congr_left (fun k _ => swapF_eq f i j k)
  rw [e]
  refine List.Perm.map f ((List.perm_ext_iff_of_nodup ?_ List.nodup_range).2 (fun k => ?_))
  · rw [List.Nodup, List.pairwise_map]
    exact List.Pairwise.imp (fun h => swapN_ne h) List.nodup_range
  · rw [List.mem_map, List.mem_range]
    constructor
    · rintro ⟨x, hx, rfl⟩
      rw [List.mem_range] at hx
      unfold swapN
      repeat' split
      all_goals omega
    · intro hk
      refine ⟨swapN i j k, ?_, ?_⟩
      · rw [List.mem_range]
        unfold swapN
        repeat' split
        all_goals omega
      · unfold swapN
        repeat' split
        all_goals omega
/-- The elements of the first n places. -/
def upto {α : Type} (f : Nat → α) (n : Nat) : List α := (List.range n).map f
theorem upto_succ {α : Type} (f : Nat → α) (n : Nat) : upto f (n + 1) = upto f n ++ [f n] := by
  unfold upto
  rw [List.range_succ, List.map_append]
  rfl
/-- What has come out, and what is left. -/
structure OutF {α : Type} (lt : α → α → Bool) (all out : List α) (f : Nat → α) (n : Nat) : Prop where
  perm : (out ++ upto f n).Perm all
  sort : out.Pairwise (fun a b => lt b a = false)
  rest : ∀ a ∈ out, ∀ k, k < n → lt (f k) a = false
theorem OutF.end {α : Type} {lt : α → α → Bool} {all out : List α} {f : Nat → α} (h : OutF lt all out f 0) : out.Perm all ∧ out.Pairwise (fun a b => lt b a = false) := by
  refine ⟨?_, h.sort⟩
  have := h.perm
  simpa [upto] using this
/-- The first comes out: the places behind it are shuffled. -/
theorem OutF.next {α : Type} {lt : α → α → Bool} {all out : List α} {f g : Nat → α} {n : Nat} (h : OutF lt all out f (n + 1)) (hmin : ∀ k, k < n + 1 → lt (f k) (f 0) = false) (hg : (upto g n ++ [f 0]).Perm (upto f (n + 1))) : OutF lt all (out ++ [f 0]) g n := by
  have hmem : ∀ k, k < n → ∃ m, m < n + 1 ∧ g k = f m := fun k hk => by
    have h1 : g k ∈ upto g n ++ [f 0] := List.mem_append.2 (.inl (List.mem_map.2 ⟨k, List.mem_range.2 hk, rfl⟩))
    obtain ⟨m, hm, e⟩ := List.mem_map.1 (hg.mem_iff.1 h1)
    exact ⟨m, List.mem_range.1 hm, e.symm⟩
  refine ⟨?_, ?_, ?_⟩
  · refine List.Perm.trans ?_ h.perm
    rw [List.append_assoc]
    refine List.Perm.append_left out ?_
    exact (List.perm_append_comm).trans hg
  · rw [List.pairwise_append]
    refine ⟨h.sort, by simp, fun a ha b hb => ?_⟩
    simp at hb
    subst hb
    exact h.rest a ha 0 (by omega)
  · intro a ha k hk
    obtain ⟨m, hm, e⟩ := hmem k hk
    rw [e]
    rcases List.mem_append.1 ha with ha | ha
    · exact h.rest a ha m hm
    · simp at ha
      subst ha
      exact hmin m hm
theorem sorted_same {α : Type} {lt : α → α → Bool} (hs : Strict lt) {a b all : List α} (ha : a.Perm all) (hb : b.Perm all) (sa : a.Pairwise (fun x y => lt y x = false)) (sb : b.Pairwise (fun x y => lt y x = false)) : a = b :=
  List.Perm.eq_of_pairwise (le := fun x y => lt y x = false) (fun x y _ _ h1 h2 => hs.same x y h2 h1) sa sb (ha.trans hb.symm)
end Go.Proofs.YtofflfaineodmaaGreat

namespace Go.Proofs.YtofflfaineodmaaGreat
open Go.RowKit

/-- A comparison: below zero, zero, above. -/
structure CmpI {α : Type} (c : α → α → Int) : Prop where
  swap : ∀ a b, c b a = - c a b
  le : ∀ a b d, c a b ≤ 0 → c b d ≤ 0 → c a d ≤ 0
  lt : ∀ a b d, c a b ≤ 0 → c b d ≤ 0 → (c a b < 0 ∨ c b d < 0) → c a d < 0
theorem CmpI.zero {α : Type} {c : α → α → Int} (h : CmpI c) {a b d : α} (h1 : c a b = 0) (h2 : c b d = 0) : c a d = 0 := by
  have l1 := h.le a b d (by omega) (by omega)
  have l2 := h.le d b a (by rw [h.swap b d]; omega) (by rw [h.swap a b]; omega)
  rw [h.swap a d] at l2
  omega
theorem CmpI.map {α β : Type} {c : α → α → Int} (h : CmpI c) (g : β → α) : CmpI (fun a b => c (g a) (g b)) := ⟨fun _ _ => h.swap _ _, fun _ _ _ => h.le _ _ _, fun _ _ _ => h.lt _ _ _⟩
theorem CmpI.flip {α : Type} {c : α → α → Int} (h : CmpI c) : CmpI (fun a b => c b a) := by
  refine ⟨fun a b => h.swap _ _, fun a b d h1 h2 => h.le d b a h2 h1, fun a b d h1 h2 h3 => h.lt d b a h2 h1 (h3.symm)⟩
theorem CmpI.or {α : Type} {c e : α → α → Int} (h : CmpI c) (k : CmpI e) : CmpI (fun a b => if c a b = 0 then e a b else c a b) := by
  have key : ∀ a b d, (if c a b = 0 then e a b else c a b) ≤ 0 → (if c b d = 0 then e b d else c b d) ≤ 0 → (c a d < 0 ∧ (c a b < 0 ∨ c b d < 0)) ∨ (c a d = 0 ∧ c a b = 0 ∧ c b d = 0 ∧ e a b ≤ 0 ∧ e b d ≤ 0) := by
    intro a b d h1 h2
    by_cases z1 : c a b = 0
    · rw [if_pos z1] at h1
      by_cases z2 : c b d = 0
      · rw [if_pos z2] at h2
        exact .inr ⟨h.zero z1 z2, z1, z2, h1, h2⟩
      · rw [if_neg z2] at h2
        exact .inl ⟨h.lt a b d (by omega) h2 (.inr (by omega)), .inr (by omega)⟩
    · rw [if_neg z1] at h1
      by_cases z2 : c b d = 0
      · exact .inl ⟨h.lt a b d h1 (by omega) (.inl (by omega)), .inl (by omega)⟩
      · rw [if_neg z2] at h2
        exact .inl ⟨h.lt a b d h1 h2 (.inl (by omega)), .inl (by omega)⟩
  refine ⟨fun a b => ?_, fun a b d h1 h2 => ?_, fun a b d h1 h2 h3 => ?_⟩
  · have e1 := h.swap a b
    have e2 := k.swap a b
    by_cases z : c a b = 0
    · rw [if_pos z, if_pos (by omega)]
      exact e2
    · rw [if_neg z, if_neg (by omega)]
      exact e1
  · rcases key a b d h1 h2 with ⟨l, _⟩ | ⟨z, z1, z2, l1, l2⟩
    · rw [if_neg (by omega)]
      omega
    · rw [if_pos z]
      exact k.le a b d l1 l2
  · rcases key a b d h1 h2 with ⟨l, _⟩ | ⟨z, z1, z2, l1, l2⟩
    · rw [if_neg (by omega)]
      exact l
    · rw [if_pos z]
      rw [if_pos z1, if_pos z2] at h3
      exact k.lt a b d l1 l2 h3
theorem cmpInt : CmpI Lib.compareInt := by
  refine ⟨fun a b => ?_, fun a b d h1 h2 => ?_, fun a b d h1 h2 h3 => ?_⟩
  · rcases cmp_cases a b with ⟨p, q⟩ | ⟨p, q⟩ | ⟨p, q⟩ <;> rcases cmp_cases b a with ⟨p', q'⟩ | ⟨p', q'⟩ | ⟨p', q'⟩ <;> omega
  · rcases cmp_cases a b with ⟨p, q⟩ | ⟨p, q⟩ | ⟨p, q⟩ <;> rcases cmp_cases b d with ⟨p', q'⟩ | ⟨p', q'⟩ | ⟨p', q'⟩ <;> rcases cmp_cases a d with ⟨p2, q2⟩ | ⟨p2, q2⟩ | ⟨p2, q2⟩ <;> omega
  · rcases cmp_cases a b with ⟨p, q⟩ | ⟨p, q⟩ | ⟨p, q⟩ <;> rcases cmp_cases b d with ⟨p', q'⟩ | ⟨p', q'⟩ | ⟨p', q'⟩ <;> rcases cmp_cases a d with ⟨p2, q2⟩ | ⟨p2, q2⟩ | ⟨p2, q2⟩ <;> omega
theorem lexC_le : ∀ (a b d : List Int), lexC a b ≤ 0 → lexC b d ≤ 0 → lexC a d ≤ 0 ∧ ((lexC a b < 0 ∨ lexC b d < 0) → lexC a d < 0)
  | [], [], [], _, _ => by simp [lexC]
  | [], [], _ :: _, _, _ => by simp [lexC]
  | [], _ :: _, [], _, h => by simp [lexC] at h
  | [], _ :: _, _ :: _, _, _ => by simp [lexC]
  | _ :: _, [], _, h, _ => by simp [lexC] at h
  | _ :: _, _ :: _, [], _, h => by simp [lexC] at h
  | x :: a, y :: b, z :: d, h1, h2 => by
    have ih := lexC_le a b d
    simp only [lexC] at h1 h2 ⊢
    rcases cmp_cases x y with ⟨p, q⟩ | ⟨p, q⟩ | ⟨p, q⟩ <;> rcases cmp_cases y z with ⟨p', q'⟩ | ⟨p', q'⟩ | ⟨p', q'⟩ <;> rcases cmp_cases x z with ⟨p2, q2⟩ | ⟨p2, q2⟩ | ⟨p2, q2⟩
    all_goals first | (exfalso; omega) | (rw [q] at h1 ⊢; rw [q'] at h2 ⊢; rw [q2]; simp at h1 h2 ⊢; done) | (rw [q] at h1 ⊢; rw [q'] at h2 ⊢; rw [q2]; simp at h1 h2 ⊢; exact ih h1 h2)
theorem cmpLex : CmpI lexC := ⟨fun a b => lexC_swap a b, fun a b d h1 h2 => (lexC_le a b d h1 h2).1, fun a b d h1 h2 h3 => (lexC_le a b d h1 h2).2 h3⟩
theorem lexC_eq : ∀ (a b : List Int), lexC a b = 0 → a = b
  | [], [], _ => rfl
  | [], _ :: _, h => by simp [lexC] at h
  | _ :: _, [], h => by simp [lexC] at h
  | x :: a, y :: b, h => by
    simp only [lexC] at h
    rcases cmp_cases x y with ⟨p, q⟩ | ⟨p, q⟩ | ⟨p, q⟩
    · rw [q] at h
      simp at h
    · rw [q] at h
      simp at h
    · rw [q, if_pos rfl] at h
      rw [p, lexC_eq a b h]
theorem cmpAhead (rs : List Ru) : CmpI (aheadC rs) := by
  have h := ((cmpInt.map (salOf rs)).flip).or (((cmpLex.map (fun x : In => recA x.tags)).flip).or ((cmpInt.map In.rule).or (cmpLex.map In.tags)))
  have e : (aheadC rs) = (fun a b : In => if Lib.compareInt (salOf rs b) (salOf rs a) = 0 then (if lexC (recA b.tags) (recA a.tags) = 0 then (if Lib.compareInt a.rule b.rule = 0 then lexC a.tags b.tags else Lib.compareInt a.rule b.rule) else lexC (recA b.tags) (recA a.tags)) else Lib.compareInt (salOf rs b) (salOf rs a)) := by
    funext a b
    unfold aheadC
    have e0 : ∀ x : Int, orI [x] = x := fun x => by simp only [orI]; split <;> omega
    have e1 : ∀ x y : Int, orI [x, y] = if x = 0 then y else x := fun x y => by show (if x = 0 then orI [y] else x) = _; rw [e0]
    rw [e1]
    show (if _ = 0 then (if _ = 0 then orI [_] else _) else _) = _
    rw [e0]
  rw [e]
  exact h
theorem bef_strict (rs : List Ru) : Strict (befI rs) := by
  have h := cmpAhead rs
  refine ⟨fun a b h1 => ?_, fun a b d h1 h2 => ?_, fun a b h1 h2 => ?_⟩
  · unfold befI at *
    have e := h.swap a b
    simp at h1 ⊢
    omega
  · unfold befI at *
    simp at h1 h2 ⊢
    exact h.lt a b d (by omega) (by omega) (.inl h1)
  · have e := h.swap a b
    unfold befI at h1 h2
    simp at h1 h2
    have z : aheadC rs a b = 0 := by omega
    unfold aheadC at z
    have e0 : ∀ x y : Int, orI [x, y] = 0 → x = 0 ∧ y = 0 := fun x y hz => by
      simp only [orI] at hz
      split at hz
      · rename_i hx
        split at hz
        · rename_i hy
          exact ⟨hx, hy⟩
        · exact absurd hz (by assumption)
      · exact absurd hz (by assumption)
    have z3 : lexC (recA b.tags) (recA a.tags) = 0 ∧ orI [Lib.compareInt a.rule b.rule, lexC a.tags b.tags] = 0 := by
      have z' : (if Lib.compareInt (salOf rs b) (salOf rs a) = 0 then orI [lexC (recA b.tags) (recA a.tags), orI [Lib.compareInt a.rule b.rule, lexC a.tags b.tags]] else Lib.compareInt (salOf rs b) (salOf rs a)) = 0 := z
      split at z'
      · exact e0 _ _ z'
      · exact absurd z' (by assumption)
    obtain ⟨z4, z5⟩ := e0 _ _ z3.2
    have e1 : a.rule = b.rule := by rcases cmp_cases a.rule b.rule with ⟨p, q⟩ | ⟨p, q⟩ | ⟨p, q⟩ <;> omega
    have e2 := lexC_eq _ _ z5
    cases a
    cases b
    simp_all
end Go.Proofs.YtofflfaineodmaaGreat

/-
  OUR OWN TEXT. The model's draws: now and then a list of values that is not good (written by genrn8.py).
-/
import Derived.Test.YtgamdkokmkagaaaRn7m
import Derived.Test.YtgamdkokmkagaaaJl
namespace Go.Proofs.Ytgamdkokmkagaaa
open Go.RowKit
attribute [local go_sem ↓] Go.wp_at_zero Go.wp_at_succ

def zeroV : V := (0, 0, ⟨#[]⟩)
theorem made_own (n : Nat) (hn : n = 6 ∨ n = 7) (w : World) : (w.alloc (.cells (madeCells #[.int .i64 0, .int .i64 0, .string ⟨#[]⟩] (n * 3)) 125)).ownsRow w.heap.size 125 3 (.slice (some ⟨w.heap.size, 0, none⟩) n n) n ((List.replicate n zeroV).flatMap V.cells) := by
  rcases hn with rfl | rfl
  · exact ⟨rfl, .inr ⟨w.heap.size, 6, _, rfl, Nat.le_refl _, heap_alloc_new _ _, Nat.le_refl _, by decide, by simp [madeCells], by kernel_rfl⟩⟩
  · exact ⟨rfl, .inr ⟨w.heap.size, 7, _, rfl, Nat.le_refl _, heap_alloc_new _ _, Nat.le_refl _, by decide, by simp [madeCells], by kernel_rfl⟩⟩
/-- What is left: the slots that are told are owned; only the reader's box and the old row were written. -/
def WPost (g base : Nat) (a : Option Addr) (c : Nat) (vs : List V) (w : World) (e : Ending) (w' : World) : Prop :=
  ∃ a' c' vs', e = .returned (.slice a' (List.length vs') c') ∧ vs'.length ≤ 7 ∧ (∀ v ∈ vs', VSm v) ∧ w'.ownsRow base 125 3 (.slice a' vs'.length c') vs'.length (vs'.flatMap V.cells) ∧ Qs g g (Value.slice a vs.length c).ownBlock w w'
theorem Qs.grownO {g b : Nat} {o : Option Nat} {u v w : World} (h : Qs g b o u v) (hg : v.grownBy w o) (hb : ∀ k, o = some k → g < k) (hgu : g < u.heap.size) : Qs g b o u w :=
  ⟨h.rest.grown hg (Nat.zero_le _) (fun _ _ => Nat.zero_le _), fun k hk h1 h2 h3 => (hg.block k (Nat.lt_of_lt_of_le hk h.rest.size) (fun e => h3 e.symm)).trans (h.block k hk h1 h2 h3), h.rdr.old ((Below.refl _ _).grown hg (by have := h.rest.size; omega) (fun k hk => by have := hb k hk; omega))⟩
set_option maxRecDepth 100000 in
set_option maxHeartbeats 3200000 in
theorem l1Wrong_any (g base : Nat) (a : Option Addr) (c : Nat) (vs : List V) (w : World) (h : Rdr w g) (hgb : g < base) (hbase : base ≤ w.heap.size) (hv6 : vs.length ≤ 6) (hvs : ∀ v ∈ vs, VSm v) (hown : w.ownsRow base 125 3 (.slice a vs.length c) vs.length (vs.flatMap V.cells)) :
    Calls Try.prog 119 #[.pointer (some ⟨g, 0, none⟩), .slice a vs.length c] w (WPost g base a c vs w) := by
  have HV := hidR hvs
  have HO := hidR hown
  have H := hidR h
  have hlt := h.lt
  clear h hvs hown
  have hmk7 := run_make_agg (P := Try.prog) 29 125 _ 3 32 Try.underlying29 infoVF 7 (by omega) (by omega)
  have hmk6 := run_make_agg (P := Try.prog) 29 125 _ 3 32 Try.underlying29 infoVF 6 (by omega) (by omega)
  simp only [Int.cast_ofNat_Int] at hmk7 hmk6
  go_enter Try.func119, Try.ntmps119
  go_wp2_with fail
  refine (next_any g w H.out).mono ?_
  rintro e w1 ⟨u, hu, rfl, hr1⟩
  have HO1 := hidR (own_rs HO.out hr1 hgb)
  have Q1 := hidR (Qs.of (b := g) (o := (Value.slice a vs.length c).ownBlock) hr1)
  have hs1 := hr1.1.rest.size
  have HA := hidR (fun o => (Below.refl _ _).alloc (Nat.le_refl _) o : ∀ o, Below w1.heap.size w1 (w1.alloc o))
  have HOW := hidR (fun o => own_bel HO1.out (HA.out o))
  have HGB := hidR (fun k (hk : (Value.slice a vs.length c).ownBlock = some k) => (show g < k by have := (HO.out.lt k hk).1; omega))
  clear hr1 H HO
  by_cases e255 : u = 255
  · have h255 : ((u : Int) == 255) = true := by simp; omega
    have h254 : ((u : Int) == 254) = false := by simp; omega
    have h253 : ((u : Int) == 253) = false := by simp; omega
    have h252 : ((u : Int) == 252) = false := by simp; omega
    have h251 : ((u : Int) == 251) = false := by simp; omega
    have h250 : ((u : Int) == 250) = false := by simp; omega
    clear e255
    go_wp2_with fail
    go_ret
    exact ⟨some ⟨w1.heap.size, 0, none⟩, 7, List.replicate 7 zeroV, rfl, by simp, by intro x hx; rw [List.eq_of_mem_replicate hx]; exact vsm_zero, by simpa using owns_base (made_own 7 (by omega) w1) (by omega), Q1.out.bel (HA.out _)⟩
  by_cases e254 : u = 254
  · have h255 : ((u : Int) == 255) = false := by simp; omega
    have h254 : ((u : Int) == 254) = true := by simp; omega
    have h253 : ((u : Int) == 253) = false := by simp; omega
    have h252 : ((u : Int) == 252) = false := by simp; omega
    have h251 : ((u : Int) == 251) = false := by simp; omega
    have h250 : ((u : Int) == 250) = false := by simp; omega
    clear e254
    go_wp2_with (first | (at_builtin; refine wpList_append_any (by rfl) (.tmp 14) (.tmp 16) 29 (by rfl) base 125 _ 3 32 Try.underlying29 infoVF (by rfl) (by omega) _ vs.length _ (by rfl) (HOW.out _) (some ⟨_, 0, none⟩) 1 1 (by rfl) (V.cells (2, 0, ⟨#[]⟩)) (by rfl) (fun e => by cases e) (news_new _ _ _ _ (by simp)) (V.cells_one _) (by unfold maxLen; omega) (by omega) (by simp; omega) ?_; intro a3 c3 w3 ho3 hg3 hl3) | fail)
    go_ret
    exact ⟨a3, c3, vs ++ [(2, 0, ⟨#[]⟩)], by simp, by simp; omega, by intro x hx; rcases List.mem_append.1 hx with hx | hx; exact HV.out x hx; simp at hx; subst hx; exact vsm_sym 2 0 _ (Nat.zero_le 20) (by decide) (by decide), by simpa using ho3.out, (Q1.out.bel (HA.out _)).grownO hg3.out HGB.out hlt⟩
  by_cases e253 : u = 253
  · have h255 : ((u : Int) == 255) = false := by simp; omega
    have h254 : ((u : Int) == 254) = false := by simp; omega
    have h253 : ((u : Int) == 253) = true := by simp; omega
    have h252 : ((u : Int) == 252) = false := by simp; omega
    have h251 : ((u : Int) == 251) = false := by simp; omega
    have h250 : ((u : Int) == 250) = false := by simp; omega
    clear e253
    go_wp2_with (first | (at_builtin; refine wpList_append_any (by rfl) (.tmp 20) (.tmp 22) 29 (by rfl) base 125 _ 3 32 Try.underlying29 infoVF (by rfl) (by omega) _ vs.length _ (by rfl) (HOW.out _) (some ⟨_, 0, none⟩) 1 1 (by rfl) (V.cells (1, 0, ⟨#[45, 97]⟩)) (by rfl) (fun e => by cases e) (news_new _ _ _ _ (by simp)) (V.cells_one _) (by unfold maxLen; omega) (by omega) (by simp; omega) ?_; intro a3 c3 w3 ho3 hg3 hl3) | fail)
    go_ret
    exact ⟨a3, c3, vs ++ [(1, 0, ⟨#[45, 97]⟩)], by simp, by simp; omega, by intro x hx; rcases List.mem_append.1 hx with hx | hx; exact HV.out x hx; simp at hx; subst hx; exact vsm_sym 1 0 _ (by decide) (by decide) (by decide), by simpa using ho3.out, (Q1.out.bel (HA.out _)).grownO hg3.out HGB.out hlt⟩
  by_cases e252 : u = 252
  · have h255 : ((u : Int) == 255) = false := by simp; omega
    have h254 : ((u : Int) == 254) = false := by simp; omega
    have h253 : ((u : Int) == 253) = false := by simp; omega
    have h252 : ((u : Int) == 252) = true := by simp; omega
    have h251 : ((u : Int) == 251) = false := by simp; omega
    have h250 : ((u : Int) == 250) = false := by simp; omega
    clear e252
    go_wp2_with (first | (at_builtin; refine wpList_append_any (by rfl) (.tmp 26) (.tmp 28) 29 (by rfl) base 125 _ 3 32 Try.underlying29 infoVF (by rfl) (by omega) _ vs.length _ (by rfl) (HOW.out _) (some ⟨_, 0, none⟩) 1 1 (by rfl) (V.cells (1, 1, ⟨#[97]⟩)) (by rfl) (fun e => by cases e) (news_new _ _ _ _ (by simp)) (V.cells_one _) (by unfold maxLen; omega) (by omega) (by simp; omega) ?_; intro a3 c3 w3 ho3 hg3 hl3) | fail)
    go_ret
    exact ⟨a3, c3, vs ++ [(1, 1, ⟨#[97]⟩)], by simp, by simp; omega, by intro x hx; rcases List.mem_append.1 hx with hx | hx; exact HV.out x hx; simp at hx; subst hx; exact vsm_sym 1 1 _ (by decide) (by decide) (by decide), by simpa using ho3.out, (Q1.out.bel (HA.out _)).grownO hg3.out HGB.out hlt⟩
  by_cases e251 : u = 251
  · have h255 : ((u : Int) == 255) = false := by simp; omega
    have h254 : ((u : Int) == 254) = false := by simp; omega
    have h253 : ((u : Int) == 253) = false := by simp; omega
    have h252 : ((u : Int) == 252) = false := by simp; omega
    have h251 : ((u : Int) == 251) = true := by simp; omega
    have h250 : ((u : Int) == 250) = false := by simp; omega
    clear e251
    go_wp2_with fail
    go_ret
    exact ⟨some ⟨w1.heap.size, 0, none⟩, 6, List.replicate 6 zeroV, rfl, by simp, by intro x hx; rw [List.eq_of_mem_replicate hx]; exact vsm_zero, by simpa using owns_base (made_own 6 (by omega) w1) (by omega), Q1.out.bel (HA.out _)⟩
  by_cases e250 : u = 250
  · have h255 : ((u : Int) == 255) = false := by simp; omega
    have h254 : ((u : Int) == 254) = false := by simp; omega
    have h253 : ((u : Int) == 253) = false := by simp; omega
    have h252 : ((u : Int) == 252) = false := by simp; omega
    have h251 : ((u : Int) == 251) = false := by simp; omega
    have h250 : ((u : Int) == 250) = true := by simp; omega
    clear e250
    go_wp2_with fail
    refine (l1Sym_any _ w1).mono ?_
    rintro e w2 ⟨rfl, hb2⟩
    have HO2 := hidR (own_bel HO1.out hb2)
    have Q2 := hidR (Q1.out.bel hb2)
    have hs2 := hb2.size
    have HA2 := hidR (fun o => (Below.refl _ _).alloc (Nat.le_refl _) o : ∀ o, Below w2.heap.size w2 (w2.alloc o))
    clear hb2 HOW
    have HOW := hidR (fun o => own_bel HO2.out (HA2.out o))
    unfold vV
    go_wp2_with (first | (at_builtin; refine wpList_append_any (by rfl) (.tmp 35) (.tmp 37) 29 (by rfl) base 125 _ 3 32 Try.underlying29 infoVF (by rfl) (by omega) _ vs.length _ (by rfl) (HOW.out _) (some ⟨_, 0, none⟩) 1 1 (by rfl) (V.cells (1, 0, ⟨#[97, 98, 99, 100, 101, 102, 103, 104, 105, 106, 97, 98, 99, 100, 101, 102, 103, 104, 105, 106]⟩)) (by rfl) (fun e => by cases e) (news_new _ _ _ _ (by simp)) (V.cells_one _) (by unfold maxLen; omega) (by omega) (by simp; omega) ?_; intro a3 c3 w3 ho3 hg3 hl3) | fail)
    go_ret
    exact ⟨a3, c3, vs ++ [(1, 0, ⟨#[97, 98, 99, 100, 101, 102, 103, 104, 105, 106, 97, 98, 99, 100, 101, 102, 103, 104, 105, 106]⟩)], by simp, by simp; omega, by intro x hx; rcases List.mem_append.1 hx with hx | hx; exact HV.out x hx; simp at hx; subst hx; exact vsm_sym 1 0 _ (by decide) (by decide) (by decide), by simpa using ho3.out, (Q2.out.bel (HA2.out _)).grownO hg3.out HGB.out hlt⟩
  have h255 : ((u : Int) == 255) = false := by simp; omega
  have h254 : ((u : Int) == 254) = false := by simp; omega
  have h253 : ((u : Int) == 253) = false := by simp; omega
  have h252 : ((u : Int) == 252) = false := by simp; omega
  have h251 : ((u : Int) == 251) = false := by simp; omega
  have h250 : ((u : Int) == 250) = false := by simp; omega
  go_wp2_with fail
  go_ret
  exact ⟨a, c, vs, rfl, by omega, HV.out, HO1.out, Q1.out⟩
end Go.Proofs.Ytgamdkokmkagaaa

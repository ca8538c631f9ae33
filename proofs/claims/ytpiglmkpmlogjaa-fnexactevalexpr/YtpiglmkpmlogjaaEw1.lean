/-
  OUR OWN TEXT. EvalExpr: the model's side: a number by its digits.
-/
import Derived.Test.YtpiglmkpmlogjaaEv7
import Derived.Test.YtpiglmkpmlogjaaApp
namespace Go.Proofs.Ytpiglmkpmlogjaa
open Go.RowKit
attribute [local go_sem ↓] Go.wp_at_zero Go.wp_at_succ

def dcells (ds : List Nat) : List Value := ds.map fun (d : Nat) => Value.int .u32 (d : Int)
/-- The four digits of a number below 2 to the power of 64. -/
def digs (u : Nat) : Nat → List Nat
  | 0 => []
  | k + 1 => u % 65536 :: digs (u / 65536) k
theorem digs_len (k : Nat) : ∀ u, (digs u k).length = k := by
  induction k with
  | zero => intro _; rfl
  | succ k ih => intro u; simp [digs, ih]
theorem digs_lt (k : Nat) : ∀ u, ∀ d ∈ digs u k, d < 65536 := by
  induction k with
  | zero => intro u d hd; simp [digs] at hd
  | succ k ih =>
    intro u d hd
    rcases List.mem_cons.1 hd with rfl | hd
    · exact Nat.mod_lt _ (by omega)
    · exact ih _ d hd
theorem digs_snoc (k : Nat) : ∀ u, digs u (k + 1) = digs u k ++ [u / 65536 ^ k % 65536] := by
  induction k with
  | zero => intro u; simp [digs]
  | succ k ih =>
    intro u
    rw [show digs u (k + 1 + 1) = u % 65536 :: digs (u / 65536) (k + 1) from rfl, ih, show digs u (k + 1) = u % 65536 :: digs (u / 65536) k from rfl, Nat.div_div_eq_div_mul, Nat.pow_succ, Nat.mul_comm 65536 (65536 ^ k)]
    rfl
theorem digs_val (k : Nat) : ∀ u, u < 65536 ^ k → dval (digs u k) = u := by
  induction k with
  | zero =>
    intro u h
    simp at h
    subst h
    rfl
  | succ k ih =>
    intro u h
    rw [show digs u (k + 1) = u % 65536 :: digs (u / 65536) k from rfl, dval, ih _ (by rw [Nat.pow_succ] at h; exact Nat.div_lt_of_lt_mul (by rw [Nat.mul_comm]; exact h))]
    omega
theorem infoU : (Try.prog.info? 285).map (fun i => (i.zero, i.size, i.bytes)) = some (some (.int .u32 0), 1, 4) := by kernel_rfl

theorem u64neg (m : Nat) (h : m ≤ 9223372036854775808) (h0 : 0 < m) : IntKind.u64.wrap (-IntKind.u64.wrap (-(m : Int))) = (m : Int) := by
  simp [IntKind.wrap, IntKind.bits, IntKind.signed]
  omega
theorem news_allocW (w : World) (L : List Value) (t : TypeId) (b : Nat) (hb : b = w.heap.size) (ad : Addr) (e : some (⟨b, 0, none⟩ : Addr) = some ad) (j : Nat) (u : Value) (h : L[j]? = some u) : (w.alloc (.cells L.toArray t)).cell? (ad.add j) = some u := by
  subst hb
  cases e
  rw [Addr.add_mid, Nat.zero_add]
  have hb := heap_alloc_new w (.cells L.toArray t)
  simp only [World.cell?, hb]
  simpa using h
theorem shr16 (u : Nat) (h : u < 18446744073709551616) : u / 65536 < 18446744073709551616 := by omega

set_option maxHeartbeats 1600000 in
theorem wideOf_neg (m : Nat) (w : World) (hm : m ≤ 9223372036854775808) (h0 : 0 < m) :
    Calls Try.prog 219 #[.int .i64 (-(m : Int))] w fun e w' =>
      (∃ a c, e = .returned (.agg #[.bool true, .slice a 4 c]) ∧ w'.ownsRow w.heap.size 285 1 (.slice a 4 c) 4 (dcells (digs m 4))) ∧ Below w.heap.size w w' := by
  have hw := u64neg m hm h0
  have hneg : -(m : Int) < 0 := by omega
  go_enter Try.func219, Try.ntmps219
  go_wp2
  go_loopw [3, 5] (fun uv kv wr => ∃ (k : Nat) (a : Option Addr) (c : Nat), k ≤ 4 ∧ kv = .int .i64 k ∧ uv = .int .u64 ((m / 65536 ^ k : Nat) : Int) ∧ wr.cell? ⟨w.heap.size + 1, 0, none⟩ = some (.bool true) ∧ wr.cell? ⟨w.heap.size + 1, 1, none⟩ = some (.slice a k c) ∧ wr.frozen? ⟨w.heap.size + 1, 1, none⟩ = false ∧ wr.ownsRow (w.heap.size + 2) 285 1 (.slice a k c) k (dcells (digs m k)) ∧ w.heap.size + 1 < wr.heap.size ∧ wr.heap[w.heap.size]? = some (.cells #[.bool false, .slice none 0 0] 290 (0, 0)) ∧ Below w.heap.size w wr) (fun _ kv _ => 4 - (intOf kv).toNat)
  case atStart =>
    refine ⟨0, none, 0, by omega, rfl, by simp, by simp [go_sem], by simp [go_sem], by simp [go_sem], World.ownsRow_nil _ _ _ _, by simp, ?_, B2e w _ _⟩
    rw [Below.heap_alloc _ _ _ (by simp)]
    exact heap_alloc_new _ _
  case round =>
    obtain ⟨k, a, c, hk, rfl, rfl, c0, c1, z1, hown, hlt, hres, hb⟩ := hrel
    have HO := hidE hown
    clear hown
    by_cases hk4 : k < 4
    · obtain ⟨U, hU⟩ : ∃ U, U = m / 65536 ^ k := ⟨_, rfl⟩
      have hU64 : U < 18446744073709551616 := by rw [hU]; exact Nat.lt_of_le_of_lt (Nat.div_le_self _ _) (by omega)
      obtain ⟨D, hD⟩ : ∃ D, D = U % 65536 := ⟨_, rfl⟩
      have hDl : D < 65536 := by rw [hD]; exact Nat.mod_lt _ (by omega)
      have ha := and16 U hU64
      rw [← hD] at ha
      have hdm : (D : Int) % 4294967296 = (D : Int) := by omega
      have HDS := hidE (digs_snoc k m)
      rw [← hU, ← hD] at HDS
      have HU := hidE hU
      rw [← hU]
      clear hU hD
      go_wp2_with (first | (at_builtin; refine wpList_append_any (by rfl) (.tmp 20) (.tmp 24) 288 (by rfl) (w.heap.size + 2) 285 _ 1 4 Try.underlying288 infoU (by rfl) (by omega) _ k _ (by rfl) (HO.out.alloc _) (some ⟨_, 0, none⟩) 1 1 (by rfl) [.int .u32 (D : Int)] (by rfl) (fun e => by cases e) (news_allocW _ _ _ _ (by simp)) (by simp [Value.oneCell']) (by unfold maxLen; omega) (by omega) (by simp; omega) ?_; intro a3 c3 w3 ho3 hg3 hl3; have hne : ∀ g, (Value.slice a k c).ownBlock = some g → w.heap.size + 2 ≤ g := (fun g hg => (HO.out.lt g hg).1); have hW3 : Below (w.heap.size + 2) wr w3 := ((Below.refl _ _).alloc (by omega) _).grown hg3.out (by simp; omega) hne; have d0 := (hW3.cell (p := ⟨w.heap.size + 1, 0, none⟩) (by simp)).trans c0; have d1 := (hW3.cell (p := ⟨w.heap.size + 1, 1, none⟩) (by simp)).trans c1; have y1 := (hW3.frozen (p := ⟨w.heap.size + 1, 1, none⟩) (by simp)).trans z1; have HW3 := hidE hW3; have HO3 := hidE ho3.out; clear hW3 ho3 hg3 hl3 hne) | fail)
      have hU1 : (U : Int) / 65536 = ((m / 65536 ^ (k + 1) : Nat) : Int) := by
        rw [Nat.pow_succ, ← Nat.div_div_eq_div_mul, ← HU.out]
        omega
      go_roundw
      case rel =>
        refine ⟨k + 1, a3, c3, by omega, by go_num, by rw [hU1], ?_, ?_, ?_, ?_, ?_, ?_, ?_⟩
        · rw [World.cell?_setCell_other _ _ _ _ (by simp)]
          exact d0
        · exact World.cell?_setCell_same _ _ _ d1
        · exact (World.frozen?_setCell _ _ _ _).trans y1
        · rw [HDS.out]
          refine owns_of_block ?_ (fun g hg => Below.heap_setCell _ _ _ _ ?_)
          · have := HO3.out
            simpa [dcells] using this
          · have := (HO3.out.lt g hg).1
            simp
            omega
        · have := HW3.out.size
          simp
          omega
        · rw [Below.heap_setCell _ _ _ _ (by simp), HW3.out.block _ (by omega)]
          exact hres
        · exact (hb.trans (HW3.out.mono (by omega))).setCell (by simp) _
      case measure => simp [intOf]; omega
    · have hk4' : k = 4 := by omega
      subst hk4'
      have r0 : wr.cell? ⟨w.heap.size, 0, none⟩ = some (.bool false) := by simp [World.cell?, hres]
      have r1 : wr.cell? ⟨w.heap.size, 1, none⟩ = some (.slice none 0 0) := by simp [World.cell?, hres]
      have y0 : wr.frozen? ⟨w.heap.size, 0, none⟩ = false := by simp [World.frozen?, hres]
      have y1 : wr.frozen? ⟨w.heap.size, 1, none⟩ = false := by simp [World.frozen?, hres]
      have hl0 : w.heap.size < wr.heap.size := by omega
      have HRS := hidE hres
      clear hres
      go_wp2_with fail
      refine bodyPost_ret (v := .agg #[.bool true, .slice a 4 c]) (by simp [results, Try.results219, go_sem, r0, r1]) rfl ⟨⟨a, c, rfl, ?_⟩, ?_⟩
      · refine owns_base (owns_of_block HO.out (fun g hg => ?_)) (by omega)
        have := (HO.out.lt g hg).1
        rw [Below.heap_setCell _ _ _ _ (by simp; omega), Below.heap_setCell _ _ _ _ (by simp; omega)]
      · exact (hb.setCell (by simp) _).setCell (by simp) _

set_option maxHeartbeats 1600000 in
theorem wideOf_pos (m : Nat) (w : World) (hm : m ≤ 9223372036854775807) :
    Calls Try.prog 219 #[.int .i64 (m : Int)] w fun e w' =>
      (∃ a c, e = .returned (.agg #[.bool false, .slice a 4 c]) ∧ w'.ownsRow w.heap.size 285 1 (.slice a 4 c) 4 (dcells (digs m 4))) ∧ Below w.heap.size w w' := by
  have hw : IntKind.u64.wrap (m : Int) = (m : Int) := by
    simp [IntKind.wrap, IntKind.bits, IntKind.signed]
    omega
  go_enter Try.func219, Try.ntmps219
  go_wp2
  go_loopw [3, 5] (fun uv kv wr => ∃ (k : Nat) (a : Option Addr) (c : Nat), k ≤ 4 ∧ kv = .int .i64 k ∧ uv = .int .u64 ((m / 65536 ^ k : Nat) : Int) ∧ wr.cell? ⟨w.heap.size + 1, 0, none⟩ = some (.bool false) ∧ wr.cell? ⟨w.heap.size + 1, 1, none⟩ = some (.slice a k c) ∧ wr.frozen? ⟨w.heap.size + 1, 1, none⟩ = false ∧ wr.ownsRow (w.heap.size + 2) 285 1 (.slice a k c) k (dcells (digs m k)) ∧ w.heap.size + 1 < wr.heap.size ∧ wr.heap[w.heap.size]? = some (.cells #[.bool false, .slice none 0 0] 290 (0, 0)) ∧ Below w.heap.size w wr) (fun _ kv _ => 4 - (intOf kv).toNat)
  case atStart =>
    refine ⟨0, none, 0, by omega, rfl, by simp, by simp [go_sem], by simp [go_sem], by simp [go_sem], World.ownsRow_nil _ _ _ _, by simp, ?_, B2e w _ _⟩
    rw [Below.heap_alloc _ _ _ (by simp)]
    exact heap_alloc_new _ _
  case round =>
    obtain ⟨k, a, c, hk, rfl, rfl, c0, c1, z1, hown, hlt, hres, hb⟩ := hrel
    have HO := hidE hown
    clear hown
    by_cases hk4 : k < 4
    · obtain ⟨U, hU⟩ : ∃ U, U = m / 65536 ^ k := ⟨_, rfl⟩
      have hU64 : U < 18446744073709551616 := by rw [hU]; exact Nat.lt_of_le_of_lt (Nat.div_le_self _ _) (by omega)
      obtain ⟨D, hD⟩ : ∃ D, D = U % 65536 := ⟨_, rfl⟩
      have hDl : D < 65536 := by rw [hD]; exact Nat.mod_lt _ (by omega)
      have ha := and16 U hU64
      rw [← hD] at ha
      have hdm : (D : Int) % 4294967296 = (D : Int) := by omega
      have HDS := hidE (digs_snoc k m)
      rw [← hU, ← hD] at HDS
      have HU := hidE hU
      rw [← hU]
      clear hU hD
      go_wp2_with (first | (at_builtin; refine wpList_append_any (by rfl) (.tmp 20) (.tmp 24) 288 (by rfl) (w.heap.size + 2) 285 _ 1 4 Try.underlying288 infoU (by rfl) (by omega) _ k _ (by rfl) (HO.out.alloc _) (some ⟨_, 0, none⟩) 1 1 (by rfl) [.int .u32 (D : Int)] (by rfl) (fun e => by cases e) (news_allocW _ _ _ _ (by simp)) (by simp [Value.oneCell']) (by unfold maxLen; omega) (by omega) (by simp; omega) ?_; intro a3 c3 w3 ho3 hg3 hl3; have hne : ∀ g, (Value.slice a k c).ownBlock = some g → w.heap.size + 2 ≤ g := (fun g hg => (HO.out.lt g hg).1); have hW3 : Below (w.heap.size + 2) wr w3 := ((Below.refl _ _).alloc (by omega) _).grown hg3.out (by simp; omega) hne; have d0 := (hW3.cell (p := ⟨w.heap.size + 1, 0, none⟩) (by simp)).trans c0; have d1 := (hW3.cell (p := ⟨w.heap.size + 1, 1, none⟩) (by simp)).trans c1; have y1 := (hW3.frozen (p := ⟨w.heap.size + 1, 1, none⟩) (by simp)).trans z1; have HW3 := hidE hW3; have HO3 := hidE ho3.out; clear hW3 ho3 hg3 hl3 hne) | fail)
      have hU1 : (U : Int) / 65536 = ((m / 65536 ^ (k + 1) : Nat) : Int) := by
        rw [Nat.pow_succ, ← Nat.div_div_eq_div_mul, ← HU.out]
        omega
      go_roundw
      case rel =>
        refine ⟨k + 1, a3, c3, by omega, by go_num, by rw [hU1], ?_, ?_, ?_, ?_, ?_, ?_, ?_⟩
        · rw [World.cell?_setCell_other _ _ _ _ (by simp)]
          exact d0
        · exact World.cell?_setCell_same _ _ _ d1
        · exact (World.frozen?_setCell _ _ _ _).trans y1
        · rw [HDS.out]
          refine owns_of_block ?_ (fun g hg => Below.heap_setCell _ _ _ _ ?_)
          · have := HO3.out
            simpa [dcells] using this
          · have := (HO3.out.lt g hg).1
            simp
            omega
        · have := HW3.out.size
          simp
          omega
        · rw [Below.heap_setCell _ _ _ _ (by simp), HW3.out.block _ (by omega)]
          exact hres
        · exact (hb.trans (HW3.out.mono (by omega))).setCell (by simp) _
      case measure => simp [intOf]; omega
    · have hk4' : k = 4 := by omega
      subst hk4'
      have r0 : wr.cell? ⟨w.heap.size, 0, none⟩ = some (.bool false) := by simp [World.cell?, hres]
      have r1 : wr.cell? ⟨w.heap.size, 1, none⟩ = some (.slice none 0 0) := by simp [World.cell?, hres]
      have y0 : wr.frozen? ⟨w.heap.size, 0, none⟩ = false := by simp [World.frozen?, hres]
      have y1 : wr.frozen? ⟨w.heap.size, 1, none⟩ = false := by simp [World.frozen?, hres]
      have hl0 : w.heap.size < wr.heap.size := by omega
      have HRS := hidE hres
      clear hres
      go_wp2_with fail
      refine bodyPost_ret (v := .agg #[.bool false, .slice a 4 c]) (by simp [results, Try.results219, go_sem, r0, r1]) rfl ⟨⟨a, c, rfl, ?_⟩, ?_⟩
      · refine owns_base (owns_of_block HO.out (fun g hg => ?_)) (by omega)
        have := (HO.out.lt g hg).1
        rw [Below.heap_setCell _ _ _ _ (by simp; omega), Below.heap_setCell _ _ _ _ (by simp; omega)]
      · exact (hb.setCell (by simp) _).setCell (by simp) _

theorem wideOf_any (n : Int) (w : World) (hn : fits n = true) :
    Calls Try.prog 219 #[.int .i64 n] w fun e w' =>
      (∃ a c, e = .returned (.agg #[.bool (decide (n < 0)), .slice a 4 c]) ∧ w'.ownsRow w.heap.size 285 1 (.slice a 4 c) 4 (dcells (digs n.natAbs 4))) ∧ Below w.heap.size w w' := by
  rw [fits_iff] at hn
  by_cases h0 : n < 0
  · have e1 : n = -(n.natAbs : Int) := by omega
    have h := wideOf_neg n.natAbs w (by omega) (by omega)
    rw [← e1] at h
    rw [decide_eq_true h0]
    exact h
  · have e1 : n = (n.natAbs : Int) := by omega
    have h := wideOf_pos n.natAbs w (by omega)
    rw [← e1] at h
    rw [decide_eq_false h0]
    exact h
end Go.Proofs.Ytpiglmkpmlogjaa

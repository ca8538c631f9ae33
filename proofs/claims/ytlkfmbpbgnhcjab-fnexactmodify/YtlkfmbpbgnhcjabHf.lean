/-
  OUR OWN TEXT. Marked facts, read again; stores and changes, marked, read again and held together.
-/
import Derived.Test.YtlkfmbpbgnhcjabMf
import Derived.Test.YtlkfmbpbgnhcjabEq
namespace Go.Proofs.Ytlkfmbpbgnhcjab
open Go.RowKit
attribute [local go_sem ↓] Go.wp_at_zero Go.wp_at_succ

theorem mkFs_at {f : F} : ∀ {fs : List F} {k : Int} {j : Nat}, fs[j]? = some f → (mkFs k fs)[j]? = some (mkF (kEnd k (fs.take j)) f)
  | [], _, _, h => by simp at h
  | g :: r, k, 0, h => by
    simp at h
    subst h
    rfl
  | g :: r, k, j + 1, h => by
    show (mkFs (fEnd k g) r)[j]? = _
    rw [mkFs_at (k := fEnd k g) (by simpa using h)]
    rfl

theorem kEnd_step {fs : List F} {f : F} {k0 : Int} {j : Nat} (hfj : fs[j]? = some f) (hk : 0 < k0) (hk' : kEnd k0 fs ≤ 100000000) : kEnd k0 (fs.take (j + 1)) = kEnd k0 (fs.take j) + 2 + 3 * (f.slots.length : Int) ∧ 0 < kEnd k0 (fs.take j) ∧ kEnd k0 (fs.take j) + 2 + 3 * (f.slots.length : Int) ≤ 100000000 := by
  have hKn : kEnd k0 (fs.take (j + 1)) = kEnd k0 (fs.take j) + 2 + 3 * (f.slots.length : Int) := by rw [take_succ' fs j f hfj, kEnd_snoc]; rfl
  refine ⟨hKn, by have := kEnd_ge (fs.take j) k0; omega, ?_⟩
  rw [← hKn]
  have h1 := kEnd_append (fs.drop (j + 1)) (fs.take (j + 1)) k0
  rw [List.take_append_drop] at h1
  have h2 := kEnd_ge (fs.drop (j + 1)) (kEnd k0 (fs.take (j + 1)))
  omega

set_option maxRecDepth 100000 in
set_option maxHeartbeats 1600000 in
theorem heldFactS_any (a : Option Addr) (c : Nat) (fs : List F) (k0 : Int) (w : World) (hv : FactsAt w a (mkFs k0 fs)) (hl : fs.length ≤ 1048576) (hs : ∀ f ∈ fs, f.slots.length ≤ 1048576) (hk : 0 < k0) (hk' : kEnd k0 fs ≤ 100000000) :
    Calls Try.prog 91 #[.slice a fs.length c, .int .i64 k0] w fun e w' =>
      e = .returned (.int .i64 (kEnd k0 fs)) ∧ Below w.heap.size w w' := by
  go_enter Try.func91, Try.ntmps91
  go_wp2
  go_loopw [1, 5] (fun kv i wr => ∃ (j : Nat), j ≤ fs.length ∧ i = .int .i64 j ∧ kv = .int .i64 (kEnd k0 (fs.take j)) ∧ Below w.heap.size w wr) (fun _ i _ => fs.length - (intOf i).toNat)
  case atStart => exact ⟨0, by omega, rfl, rfl, Below.refl _ _⟩
  case round =>
    obtain ⟨j, hj, rfl, rfl, hb⟩ := hrel
    by_cases hjl : j < fs.length
    · obtain ⟨f, hfj⟩ : ∃ f, fs[j]? = some f := ⟨fs[j], by simp [hjl]⟩
      obtain ⟨hKn, hKpos, hKle⟩ := kEnd_step hfj hk hk'
      have hat := mkFs_at (k := k0) hfj
      obtain ⟨K, hK⟩ : ∃ K, K = kEnd k0 (fs.take j) := ⟨_, rfl⟩
      rw [← hK] at hKn hKpos hKle hat
      obtain ⟨b, o, rfl, d0, d1, s, cs, d2, hsl⟩ := hv.below hb j _ hat
      have c0 : wr.cell? ⟨b, o + j * 3, none⟩ = some (.int .i64 K) := d0
      have c1 : wr.cell? ⟨b, o + j * 3 + 1, none⟩ = some (.string (mText (K + 1))) := d1
      have c2 : wr.cell? ⟨b, o + j * 3 + 2, none⟩ = some (.slice s f.slots.length cs) := by rw [d2]; simp [mkF, mkVs_len]
      have hsl2 : ValsAt wr s (mkVs (K + 2) f.slots.length) := hsl
      have hsf := hs f (List.mem_of_getElem? hfj)
      have hw1 : IntKind.i64.wrap (K + 1) = K + 1 := by rw [IntKind.wrap_i64]; omega
      have hw2 : IntKind.i64.wrap (K + 1 + 1) = K + 2 := by rw [IntKind.wrap_i64]; omega
      have hnn : ¬ (K + 2 + 3 * (f.slots.length : Int) < 0) := by omega
      have HKn := hidden' hKn
      rw [← hK]
      clear d0 d1 d2 hsl hat hK hKn hfj
      go_wp2_with fail
      go_region_held3 (fun w' => w'.cell? ⟨b, o + j * 3 + 1, none⟩ = some (.string (mText (K + 1)))) ((first | with_reducible exact cell_below hb1 (by assumption) | exact c1))
        ((go_at_call 60; refine (markText_any (K + 1) _ (by omega) (by omega)).mono ?_; rintro e w1 ⟨rfl, hb1⟩))
      have hB1 : Below w.heap.size w w1 := hb.drew.trans (hb1.mono hb.size)
      have e2 : w1.cell? ⟨b, o + j * 3 + 2, none⟩ = some (.slice s f.slots.length cs) := cell_below hb1 c2
      have hsl3 : ValsAt w1 s (mkVs (K + 2) f.slots.length) := ValsAt.below (w := wr.drew) hsl2 hb1
      go_wp2_with (go_at_call 121; refine (heldValueS_any s cs f.slots.length (K + 2) w1 hsl3 hsf (by omega) (by omega)).mono ?_; rintro e w2 ⟨rfl, hb2⟩)
      go_roundw
      case rel => exact ⟨j + 1, by omega, by go_num, by rw [HKn.out], hB1.trans (hb2.mono hB1.size)⟩
      case measure => simp [intOf]; omega
    · go_wp2
      go_ret
      obtain rfl : j = fs.length := by omega
      rw [List.take_of_length_le (Nat.le_refl _)]
      exact ⟨rfl, hb⟩

set_option maxHeartbeats 800000 in
theorem markStore_any (a : Option Addr) (c : Nat) (fs : List F) (nx cp : Int) (sg : Bool) (xs : List Value) (base : Nat) (k0 : Int) (w : World) (ho : OFs w base (.slice a fs.length c) fs.length fs xs) (hl : fs.length ≤ 1048576) (hs : ∀ f ∈ fs, f.slots.length ≤ 1048576) (hk : 0 < k0) (hk' : kEnd k0 fs ≤ 100000000) :
    Calls Try.prog 26 #[.agg #[.slice a fs.length c, .int .i64 nx, .int .i64 cp, .bool sg], .int .i64 k0] w fun e w' =>
      e = .returned (.int .i64 (kEnd k0 fs)) ∧ OFs w' base (.slice a fs.length c) fs.length (mkFs k0 fs) xs ∧ Mk (InBlk (.slice a fs.length c) xs) w w' := by
  go_enter Try.func26, Try.ntmps26
  go_wp2_with (go_at_call 59; refine (markFactS_any a c fs xs base k0 _ (ho.allocd _) hl hs hk hk').mono ?_; rintro e w1 ⟨rfl, ho1, hm1⟩)
  go_ret
  exact ⟨rfl, ho1, (Mk.of_below ((Below.refl _ _).alloc (Nat.le_refl _) _)).trans hm1⟩

set_option maxHeartbeats 800000 in
theorem heldStore_any (a : Option Addr) (c : Nat) (fs : List F) (nx cp : Int) (sg : Bool) (k0 : Int) (w : World) (hv : FactsAt w a (mkFs k0 fs)) (hl : fs.length ≤ 1048576) (hs : ∀ f ∈ fs, f.slots.length ≤ 1048576) (hk : 0 < k0) (hk' : kEnd k0 fs ≤ 100000000) :
    Calls Try.prog 61 #[.agg #[.slice a fs.length c, .int .i64 nx, .int .i64 cp, .bool sg], .int .i64 k0] w fun e w' =>
      e = .returned (.int .i64 (kEnd k0 fs)) ∧ Below w.heap.size w w' := by
  have B1 : ∀ o, Below w.heap.size w (w.alloc o) := fun o => (Below.refl _ _).alloc (Nat.le_refl _) _
  have hnn : ¬ kEnd k0 fs < 0 := by have := kEnd_ge fs k0; omega
  go_enter Try.func61, Try.ntmps61
  go_wp2_with (go_at_call 91; refine (heldFactS_any a c fs k0 _ (hv.below (B1 _)) hl hs hk hk').mono ?_; rintro e w1 ⟨rfl, hb1⟩)
  go_ret
  exact ⟨rfl, (B1 _).trans (hb1.mono (by simp))⟩

set_option maxHeartbeats 800000 in
theorem markChange_any (a : Option Addr) (c : Nat) (r : C6) (xs : List Value) (base : Nat) (k0 : Int) (w : World) (ho : OFs w base (.slice a r.fs.length c) r.fs.length r.fs xs) (hl : r.fs.length ≤ 1048576) (hs : ∀ f ∈ r.fs, f.slots.length ≤ 1048576) (hk : 0 < k0) (hk' : kEnd k0 r.fs ≤ 100000000) :
    Calls Try.prog 28 #[r.val a c, .int .i64 k0] w fun e w' =>
      e = .returned (.int .i64 (kEnd k0 r.fs)) ∧ OFs w' base (.slice a r.fs.length c) r.fs.length (mkFs k0 r.fs) xs ∧ Mk (InBlk (.slice a r.fs.length c) xs) w w' := by
  unfold C6.val
  go_enter Try.func28, Try.ntmps28
  go_wp2_with (go_at_call 26; refine (markStore_any a c r.fs r.nx r.cp r.sg xs base k0 _ (ho.allocd _) hl hs hk hk').mono ?_; rintro e w1 ⟨rfl, ho1, hm1⟩)
  go_ret
  exact ⟨rfl, ho1, (Mk.of_below ((Below.refl _ _).alloc (Nat.le_refl _) _)).trans hm1⟩

set_option maxHeartbeats 800000 in
theorem heldChange_any (a : Option Addr) (c : Nat) (r : C6) (k0 : Int) (w : World) (hv : FactsAt w a (mkFs k0 r.fs)) (hl : r.fs.length ≤ 1048576) (hs : ∀ f ∈ r.fs, f.slots.length ≤ 1048576) (hk : 0 < k0) (hk' : kEnd k0 r.fs ≤ 100000000) :
    Calls Try.prog 29 #[r.val a c, .int .i64 k0] w fun e w' =>
      e = .returned (.int .i64 (kEnd k0 r.fs)) ∧ Below w.heap.size w w' := by
  have B1 : ∀ o, Below w.heap.size w (w.alloc o) := fun o => (Below.refl _ _).alloc (Nat.le_refl _) _
  have hnn : ¬ kEnd k0 r.fs < 0 := by have := kEnd_ge r.fs k0; omega
  unfold C6.val
  go_enter Try.func29, Try.ntmps29
  go_wp2_with (go_at_call 61; refine (heldStore_any a c r.fs r.nx r.cp r.sg k0 _ (hv.below (B1 _)) hl hs hk hk').mono ?_; rintro e w1 ⟨rfl, hb1⟩)
  go_ret
  exact ⟨rfl, (B1 _).trans (hb1.mono (by simp))⟩

set_option maxHeartbeats 800000 in
theorem eqChange_same (a a' : Option Addr) (c c' : Nat) (r : C6) (w : World) (hv : FactsAt w a r.fs) (hv' : FactsAt w a' r.fs) (hl : r.fs.length ≤ 1048576) (hs : ∀ f ∈ r.fs, f.slots.length ≤ 1048576) :
    Calls Try.prog 24 #[r.val a c, r.val a' c'] w fun e w' => e = .returned (.bool true) ∧ Below w.heap.size w w' := by
  have B2 : ∀ o o', Below w.heap.size w ((w.alloc o).alloc o') := fun o o' => ((Below.refl _ _).alloc (Nat.le_refl _) _).alloc (by simp) _
  unfold C6.val
  go_enter Try.func24, Try.ntmps24
  go_wp2_with (go_at_call 20; refine (eqStore_same a a' c c' r.fs r.nx r.cp r.sg _ (hv.below (B2 _ _)) (hv'.below (B2 _ _)) hl hs).mono ?_; rintro e w' ⟨rfl, hb'⟩; obtain ⟨hc, hf⟩ := bcell hb')
  go_ret
  exact ⟨rfl, (B2 _ _).trans (hb'.mono (by simp; omega))⟩
end Go.Proofs.Ytlkfmbpbgnhcjab

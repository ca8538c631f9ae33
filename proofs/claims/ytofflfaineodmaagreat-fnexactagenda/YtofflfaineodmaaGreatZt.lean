/-
  OUR OWN TEXT. Bf2, Rc3, one behind the other.
-/
import Derived.Test.YtofflfaineodmaaGreatZi
import Derived.Test.YtofflfaineodmaaGreatShf
import Derived.Deep.RegionHeld3
import Derived.Deep.DrawnRows
import Derived.Sort.OwnSortedInts
namespace Go.Proofs.YtofflfaineodmaaGreat
open Go.RowKit
attribute [local go_sem ↓] Go.wp_at_zero Go.wp_at_succ

theorem cmpI_any (x y : Int) (w : World) : Calls Tryz.prog 73 #[.int .i64 x, .int .i64 y] w fun e w' => e = .returned (.int .i64 (Lib.compareInt x y)) ∧ w' = w := AnyG.cmp_Compare_int Tryz.cmpI x y w
theorem cmpL_any (x y : Int) (w : World) : Calls Tryz.prog 162 #[.int .i64 x, .int .i64 y] w fun e w' => e = .returned (.int .i64 (Lib.compareInt x y)) ∧ w' = w := AnyG.cmp_Compare_int Tryz.cmpL x y w
theorem retI {a b : Int} (h : b = a) : Ending.returned (.int .i64 a) = .returned (.int .i64 b) := by rw [h]
theorem hidB {p : Prop} (h : p) : Hid p := h
theorem lexC_drop {xs ys : List Int} {k : Nat} {x y : Int} (hx : xs[k]? = some x) (hy : ys[k]? = some y) : lexC (xs.drop k) (ys.drop k) = if Lib.compareInt x y = 0 then lexC (xs.drop (k + 1)) (ys.drop (k + 1)) else Lib.compareInt x y := by
  rw [drop_cons hx, drop_cons hy, lexC]

set_option maxHeartbeats 800000 in
theorem compare_any (a a' : Option Addr) (c c' : Nat) (xs ys : List Int) (w : World) {q q' : Option Nat} (hv : IntsAt q w a xs) (hv' : IntsAt q' w a' ys) (hl : xs.length ≤ 1048576) (hl' : ys.length ≤ 1048576) :
    Calls Tryz.prog 163 #[.slice a xs.length c, .slice a' ys.length c'] w fun e w' => e = .returned (.int .i64 (lexC xs ys)) ∧ w' = w := by
  go_enter Tryz.func163, Tryz.ntmps163
  go_wp2
  go_loopw [11] (fun i wr => ∃ (k : Nat), k ≤ xs.length ∧ k ≤ ys.length ∧ i = .int .i64 k ∧ lexC xs ys = lexC (xs.drop k) (ys.drop k) ∧ wr = w) (fun i _ => xs.length - (intOf i).toNat)
  case atStart => exact ⟨0, by omega, by omega, rfl, rfl, rfl⟩
  case round =>
    obtain ⟨k, hk, hk', rfl, hG, rfl⟩ := hrel
    have HG := hidB hG
    clear hG
    by_cases hkl : k < xs.length
    · obtain ⟨x, hxk⟩ : ∃ x, xs[k]? = some x := ⟨xs[k], by simp [hkl]⟩
      obtain ⟨b, o, rfl, hq, d0⟩ := hv.get hxk
      by_cases hkl' : k < ys.length
      · obtain ⟨y, hyk⟩ : ∃ y, ys[k]? = some y := ⟨ys[k], by simp [hkl']⟩
        obtain ⟨b', o', rfl, hq', d1⟩ := hv'.get hyk
        have HL := hidB (lexC_drop hxk hyk)
        have HC := hidB (cmpI_any x y)
        by_cases hc : Lib.compareInt x y = 0
        · have HZ := hidB hc
          rw [hc] at HC
          clear hc
          go_wp2_with (go_at_call 73; refine (HC.out _).mono ?_; rintro e w' ⟨rfl, rfl⟩)
          go_roundw
          case rel => exact ⟨k + 1, by omega, by omega, by go_num, by rw [HG.out, HL.out, if_pos HZ.out], by first | trivial | rfl⟩
          case measure => simp [intOf]; omega
        · obtain ⟨r, hr⟩ : ∃ r, Lib.compareInt x y = r := ⟨_, rfl⟩
          rw [hr] at HC hc
          have HR := hidB hr
          have HN := hidB hc
          clear hr
          go_wp2_with (go_at_call 73; refine (HC.out _).mono ?_; rintro e w' ⟨rfl, rfl⟩)
          go_ret
          exact ⟨retI (by rw [HG.out, HL.out, HR.out, if_neg HN.out]), rfl⟩
      · have hle : ys.length = k := by omega
        have HE := hidB (show lexC (xs.drop k) (ys.drop k) = 1 from by rw [drop_cons hxk, (List.drop_eq_nil_of_le (by omega) : ys.drop k = [])]; rfl)
        go_wp2_with fail
        go_ret
        exact ⟨retI (by rw [HG.out, HE.out]), rfl⟩
    · by_cases hkl' : k < ys.length
      · obtain ⟨y, hyk⟩ : ∃ y, ys[k]? = some y := ⟨ys[k], by simp [hkl']⟩
        have HE := hidB (show lexC (xs.drop k) (ys.drop k) = -1 from by rw [drop_cons hyk, (List.drop_eq_nil_of_le (by omega) : xs.drop k = [])]; rfl)
        have hlt : (xs.length : Int) < (ys.length : Int) := by omega
        go_wp2_with fail
        go_ret
        exact ⟨retI (by rw [HG.out, HE.out]), rfl⟩
      · have HE := hidB (show lexC (xs.drop k) (ys.drop k) = 0 from by rw [(List.drop_eq_nil_of_le (by omega) : xs.drop k = []), (List.drop_eq_nil_of_le (by omega) : ys.drop k = [])]; rfl)
        have hlt : ¬ (xs.length : Int) < (ys.length : Int) := by omega
        go_wp2_with fail
        go_ret
        exact ⟨retI (by rw [HG.out, HE.out]), rfl⟩

theorem orI_drop {xs : List Int} {k : Nat} {x : Int} (hx : xs[k]? = some x) : orI (xs.drop k) = if x = 0 then orI (xs.drop (k + 1)) else x := by
  rw [drop_cons hx, orI]
set_option maxHeartbeats 800000 in
theorem or_any (a : Option Addr) (c : Nat) (xs : List Int) (w : World) {q : Option Nat} (hv : IntsAt q w a xs) (hl : xs.length ≤ 1048576) :
    Calls Tryz.prog 161 #[.slice a xs.length c] w fun e w' => e = .returned (.int .i64 (orI xs)) ∧ w' = w := by
  go_enter Tryz.func161, Tryz.ntmps161
  go_wp2
  go_loopw [8] (fun i wr => ∃ (k : Nat), k ≤ xs.length ∧ i = .int .i64 k ∧ orI xs = orI (xs.drop k) ∧ wr = w) (fun i _ => xs.length - (intOf i).toNat)
  case atStart => exact ⟨0, by omega, rfl, rfl, rfl⟩
  case round =>
    obtain ⟨k, hk, rfl, hG, rfl⟩ := hrel
    have HG := hidB hG
    clear hG
    by_cases hkl : k < xs.length
    · obtain ⟨x, hxk⟩ : ∃ x, xs[k]? = some x := ⟨xs[k], by simp [hkl]⟩
      obtain ⟨b, o, rfl, hq, d0⟩ := hv.get hxk
      have HL := hidB (orI_drop hxk)
      by_cases hc : x = 0
      · subst hc
        go_wp2_with fail
        go_roundw
        case rel => exact ⟨k + 1, by omega, by go_num, by rw [HG.out, HL.out, if_pos rfl], by first | trivial | rfl⟩
        case measure => simp [intOf]; omega
      · have HN := hidB hc
        go_wp2_with fail
        go_ret
        exact ⟨retI (by rw [HG.out, HL.out, if_neg HN.out]), rfl⟩
    · have HE := hidB (show orI (xs.drop k) = 0 from by rw [List.drop_eq_nil_of_le (by omega)]; rfl)
      go_wp2_with fail
      go_ret
      exact ⟨retI (by rw [HG.out, HE.out]), rfl⟩
end Go.Proofs.YtofflfaineodmaaGreat

namespace Go.Proofs.YtofflfaineodmaaGreat
open Go.RowKit Go.Sort Go.Lib Go.Shelf
attribute [local go_sem ↓] Go.wp_at_zero Go.wp_at_succ

theorem hidC {p : Prop} (h : p) : Hid p := h
/-- How the program compares: the greater comes first. -/
def cmpF (x y : Int) : Int := Lib.compareInt y x
theorem lt_cmpF (x y : Int) : ltOf cmpF x y = decide (y < x) := by
  unfold ltOf cmpF Lib.compareInt
  by_cases h1 : y < x
  · simp [h1]
  · by_cases h2 : x < y <;> simp [h1, h2]
theorem swoF : SWO (ltOf cmpF) where
  irrefl x := by rw [lt_cmpF]; simp
  trans x y z h1 h2 := by rw [lt_cmpF] at *; simp at *; omega
  ntrans x y z h1 h2 := by rw [lt_cmpF] at *; simp at *; omega

theorem closure_any (x y : Int) (W : World) : Calls Tryz.prog 72 #[.int .i64 x, .int .i64 y] W fun e w' => e = .returned (.int .i64 (cmpF x y)) ∧ ∃ q, w' = W.drewN q := by
  have hcon := AnyG.cmp_Compare_int Tryz.cmpI y x W
  change Calls Tryz.prog 73 _ _ _ at hcon
  unfold cmpF
  generalize Lib.compareInt y x = r at hcon ⊢
  go_enter Tryz.func72, Tryz.ntmps72
  go_wp2_with (go_at_call 73; refine hcon.mono ?_; rintro e w' ⟨rfl, rfl⟩)
  go_ret
  exact ⟨rfl, 0, rfl⟩
theorem cmpReadsF (blk off size : Nat) (w : World) : CmpReads Tryz.prog 72 #[] (Value.int .i64) cmpF blk off size w :=
  fun _ _ _ _ x y => closure_any x y _

/-- A sorted row, as a list. -/
theorem falls_of_sorted {xs : List Int} {d : Array Int} (hp : PermIn 0 xs.toArray.size xs.toArray d) (hs : SortedIn (ltOf cmpF) 0 xs.toArray.size d) : d.toList = recy xs := by
  obtain ⟨hz, _, hperm⟩ := hp
  have hz' : d.size = xs.length := by simpa using hz
  have h1 : d.extract 0 xs.toArray.size = d := by rw [← hz]; exact Array.extract_size
  have h2 : xs.toArray.extract 0 xs.toArray.size = xs.toArray := Array.extract_size
  rw [h1, h2] at hperm
  refine recy_eq hperm ?_
  unfold Falls
  rw [List.pairwise_iff_getElem]
  intro i j hi hj hij
  have h := hs i j (Nat.zero_le _) hij (by simpa [hz'] using hj)
  have hi' : i < d.size := by simpa using hi
  have hj' : j < d.size := by simpa using hj
  rw [lt_cmpF, getElem!_pos d i hi', getElem!_pos d j hj'] at h
  simp at h
  simpa using h

theorem sortI_any (g cap : Nat) (xs : List Int) (cur : Array Value) (e : TypeId) (w : World) (hb : w.heap[g]? = some (.cells cur e (0, 0))) (ht : cur.toList.take xs.length = icells xs) (hl : xs.length ≤ 1048576) :
    Calls Tryz.prog 71 #[.slice (some ⟨g, 0, none⟩) xs.length cap, .func (.func 72) #[] #[]] w fun x w' =>
      x = .returned (.tuple #[]) ∧ ∃ (n : Nat) (os : Array Obj), w' = grow (putRow (Value.int .i64) (Sort.ahead w n) g 0 (recy xs).toArray) os := by
  have eg : ∀ args w, (callFunc 72 args).run Tryz.prog w = .ok (.enter 72 args) w := enters_of Tryz.func72 (by kernel_rfl) rfl
  have hH : Holds (Value.int .i64) w g 0 xs.toArray := holds_of_blockI hb ht
  have hg : g < w.heap.size := (Array.getElem?_eq_some_iff.1 hb).1
  have hcon := Any.slices_SortFunc Tryz.sortI (Value.int .i64) (fun _ => rfl) cmpF swoF 72 #[] g 0 cap xs.toArray w eg (cmpReadsF g 0 xs.toArray.size w).lays hH hg (by simp; omega)
  change Calls Tryz.prog 71 #[.slice (some ⟨g, 0, none⟩) xs.length cap, _] _ _ at hcon
  refine hcon.mono ?_
  rintro x w' ⟨rfl, d, n, os, hp, hs, rfl⟩
  refine ⟨rfl, n, os, ?_⟩
  rw [← falls_of_sorted hp hs]
  rfl

set_option maxHeartbeats 1600000 in
theorem iRec_any (b o c : Nat) (xs : List Int) {q : Option Nat} (w : World) (hv : IntsAt q w (some ⟨b, o, none⟩) xs) (hl : xs.length ≤ 1048576) :
    Calls Tryz.prog 51 #[.slice (some ⟨b, o, none⟩) xs.length c] w fun e w' =>
      (∃ a' c', e = .returned (.slice a' (recA xs).length c') ∧ w'.ownsRow w.heap.size 3 1 (.slice a' (recA xs).length c') (recA xs).length (icells (recA xs))) ∧ Below w.heap.size w w' := by
  by_cases h1000 : xs.length ≤ 1000
  · have HA : Hid (recA xs = recy xs) := recA_yes h1000
    have hcl := AnyG.slices_Clone_int Tryz.cloneI b o xs.length c xs w (Nat.le_refl _) (by omega) (fun j hj => by
      have hx : xs[j]? = some (xs.getD j 0) := by simp [List.getD, List.getElem?_eq_getElem hj]
      obtain ⟨b', o', e, _, hc⟩ := hv.get hx
      simp only [Option.some.injEq, Addr.mk.injEq, and_true] at e
      obtain ⟨rfl, rfl⟩ := e
      exact hc)
    change Calls Tryz.prog 50 _ _ _ at hcl
    have HC := hidC hcl
    have HS := hidC (fun (g cap : Nat) (cur : Array Value) (e : TypeId) (w : World) h1 h2 => sortI_any g cap xs cur e w h1 h2 hl)
    clear hcl
    go_enter Tryz.func51, Tryz.ntmps51
    go_wp2_with fail
    refine HC.out.mono ?_
    rintro e w1 ⟨v1, rfl, ho1, hnn, hb1⟩
    rcases ho1.2 with ⟨hnil, h0⟩ | ⟨g, cap, cur, rfl, hgb, hbk, hkc, hcm, hcs, hct⟩
    · exact absurd hnil hnn
    · have hct' : cur.toList.take xs.length = icells xs := by rw [Nat.mul_one] at hct; rw [hct, List.take_of_length_le (Nat.le_refl _)]; rfl
      have HS1 := hidC (HS.out g cap cur _ w1 hbk hct')
      have HO := hidC (fun (n : Nat) (os : Array Obj) => ownsRow_sortedI (n := n) (os := os) (ss := xs) (ts := recy xs) (recy_len xs) hgb hbk hkc hcm hcs)
      have hsz := hb1.size
      clear hbk hct hct' ho1 HS hcs
      go_wp2_with fail
      refine HS1.out.mono ?_
      rintro e w2 ⟨rfl, n, os, rfl⟩
      go_wp2_with fail
      go_ret
      have hrl : (recA xs).length = xs.length := by rw [HA.out, recy_len]
      refine ⟨⟨some ⟨g, 0, none⟩, cap, by rw [hrl]; rfl, ?_⟩, ?_⟩
      · rw [hrl, HA.out]
        exact HO.out n os
      · exact hb1.grown (grownBy_sortedI _) hsz (fun k hk => by injection hk with hk; omega)
  · have HA : Hid (recA xs = []) := recA_no h1000
    go_enter Tryz.func51, Tryz.ntmps51
    go_wp2
    go_ret
    refine ⟨⟨none, 0, by rw [HA.out]; rfl, ?_⟩, Below.refl _ _⟩
    rw [HA.out]
    exact World.ownsRow_nil _ _ _ _
end Go.Proofs.YtofflfaineodmaaGreat

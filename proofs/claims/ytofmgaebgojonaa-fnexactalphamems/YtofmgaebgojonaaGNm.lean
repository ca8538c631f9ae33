/-
  OUR OWN TEXT. Nm1, Nm2, one behind the other.
-/
import Derived.Test.YtofmgaebgojonaaMo1
import Derived.Test.YtofmgaebgojonaaGAm
import Derived.Test.YtofmgaebgojonaaNt1
namespace Go.Proofs.Ytofmgaebgojonaa
open Go.RowKit
attribute [local go_sem ↓] Go.wp_at_zero Go.wp_at_succ

def mkIs (k : Int) (n : Nat) : List Int := (List.range n).map fun (j : Nat) => k + (j : Int)
theorem mkIs_len (k : Int) (n : Nat) : (mkIs k n).length = n := by simp [mkIs]
theorem mkIs_succ (k : Int) (n : Nat) : mkIs k (n + 1) = mkIs k n ++ [k + (n : Int)] := by simp [mkIs, List.range_succ]
theorem mkIs_at (k : Int) (n i : Nat) (h : i < n) : (mkIs k n)[i]? = some (k + (i : Int)) := by simp [mkIs, h]

set_option maxHeartbeats 800000 in
theorem markIntS_own (a : Option Addr) (c : Nat) (xs : List Int) (base : Nat) (k0 : Int) (w : World) (ho : w.ownsRow base 3 1 (.slice a xs.length c) xs.length (icells xs)) (hl : xs.length ≤ 1048576) (hk : 0 < k0) (hk' : k0 + (xs.length : Int) ≤ 100000000) :
    Calls Try.prog 113 #[.slice a xs.length c, .int .i64 k0] w fun e w' =>
      e = .returned (.int .i64 (k0 + (xs.length : Int))) ∧ w'.ownsRow base 3 1 (.slice a xs.length c) xs.length (icells (mkIs k0 xs.length)) ∧ MkO (Value.slice a xs.length c).ownBlock w w' := by
  go_enter Try.func113, Try.ntmps113
  go_wp2
  go_loopw [1, 5] (fun kv i wr => ∃ (j : Nat), j ≤ xs.length ∧ i = .int .i64 j ∧ kv = .int .i64 (k0 + (j : Int)) ∧ wr.ownsRow base 3 1 (.slice a xs.length c) xs.length (icells (mkIs k0 j ++ xs.drop j)) ∧ MkO (Value.slice a xs.length c).ownBlock w wr) (fun _ i _ => xs.length - (intOf i).toNat)
  case atStart => exact ⟨0, by omega, rfl, by simp, by simpa [mkIs] using ho, MkO.refl _ _⟩
  case round =>
    obtain ⟨j, hj, rfl, rfl, ho1, hm⟩ := hrel
    have HO := hidO ho1
    have HM := hidO hm
    clear ho1 hm ho
    by_cases hjl : j < xs.length
    · obtain ⟨v, hvj⟩ : ∃ v, xs[j]? = some v := ⟨xs[j], by simp [hjl]⟩
      have hd : xs.drop j = v :: xs.drop (j + 1) := drop_cons hvj
      have hcells : icells (mkIs k0 j ++ xs.drop j) = icells (mkIs k0 j) ++ ([Value.int .i64 v] ++ icells (xs.drop (j + 1))) := by
        rw [hd]
        simp [icells]
      have hAl : (icells (mkIs k0 j)).length = j := by simp [icells, mkIs_len]
      have ho2 := HO.out
      rw [hcells] at ho2
      obtain ⟨g, rfl, hbg, c0, f0⟩ := owns_cell (j := j) (x := .int .i64 v) ho2 (by rw [List.getElem?_append_right (by omega), hAl]; simp)
      have hw1 : IntKind.i64.wrap (k0 + (j : Int) + 1) = k0 + ((j : Int) + 1) := by rw [IntKind.wrap_i64]; omega
      have H2 := hidO ho2
      clear ho2 hcells hd
      go_wp2
      have s3 := (H2.out.stored j (.int .i64 (k0 + (j : Int)))).1
      have hset : (icells (mkIs k0 j) ++ ([Value.int .i64 v] ++ icells (xs.drop (j + 1)))).set j (Value.int .i64 (k0 + (j : Int))) = icells (mkIs k0 (j + 1) ++ xs.drop (j + 1)) := by
        rw [List.set_append_right _ _ (by omega), hAl, mkIs_succ]
        simp [icells]
      rw [hset] at s3
      have m2 := HM.out.trans (MkO.set (w := wr) (g := g) (o := j) (.int .i64 (k0 + (j : Int))))
      have hcast : ((j + 1 : Nat) : Int) = (j : Int) + 1 := by omega
      go_roundw
      case rel => exact ⟨j + 1, by omega, by go_num, by rw [hcast], s3, m2⟩
      case measure => simp [intOf]; omega
    · go_wp2
      go_ret
      obtain rfl : j = xs.length := by omega
      have := HO.out
      rw [List.drop_eq_nil_of_le (Nat.le_refl _), List.append_nil] at this
      exact ⟨rfl, this, HM.out⟩

set_option maxHeartbeats 800000 in
theorem heldIntS_any (a : Option Addr) (c n : Nat) (k0 : Int) (w : World) {q : Option Nat} (hv : IntsAt q w a (mkIs k0 n)) (hl : n ≤ 1048576) (hk : 0 < k0) (hk' : k0 + (n : Int) ≤ 100000000) :
    Calls Try.prog 114 #[.slice a n c, .int .i64 k0] w fun e w' =>
      e = .returned (.int .i64 (k0 + (n : Int))) ∧ Below w.heap.size w w' := by
  go_enter Try.func114, Try.ntmps114
  go_wp2
  go_loopw [1, 5] (fun kv i wr => ∃ (j : Nat), j ≤ n ∧ i = .int .i64 j ∧ kv = .int .i64 (k0 + (j : Int)) ∧ Below w.heap.size w wr) (fun _ i _ => n - (intOf i).toNat)
  case atStart => exact ⟨0, by omega, rfl, by simp, Below.refl _ _⟩
  case round =>
    obtain ⟨j, hj, rfl, rfl, hb⟩ := hrel
    by_cases hjl : j < n
    · obtain ⟨b, o, ea, _, d0⟩ := (hv.below hb).get (mkIs_at k0 n j hjl)
      subst ea
      have hw1 : IntKind.i64.wrap (k0 + (j : Int) + 1) = k0 + ((j : Int) + 1) := by rw [IntKind.wrap_i64]; omega
      have hcast : ((j + 1 : Nat) : Int) = (j : Int) + 1 := by omega
      go_wp2
      go_roundw
      case rel => exact ⟨j + 1, by omega, by go_num, by rw [hcast], hb⟩
      case measure => simp [intOf]; omega
    · go_wp2
      go_ret
      obtain rfl : j = n := by omega
      exact ⟨rfl, hb⟩
end Go.Proofs.Ytofmgaebgojonaa

namespace Go.Proofs.Ytofmgaebgojonaa
open Go.RowKit
attribute [local go_sem ↓] Go.wp_at_zero Go.wp_at_succ

def mkIss : Int → List (List Int) → List (List Int)
  | _, [] => []
  | k, xs :: r => mkIs k xs.length :: mkIss (k + (xs.length : Int)) r
def iEnd : Int → List (List Int) → Int
  | k, [] => k
  | k, xs :: r => iEnd (k + (xs.length : Int)) r
theorem iEnd_snoc (xs : List Int) : ∀ (l : List (List Int)) (k : Int), iEnd k (l ++ [xs]) = iEnd k l + (xs.length : Int)
  | [], _ => rfl
  | _ :: r, _ => iEnd_snoc xs r _
theorem mkIss_snoc (xs : List Int) : ∀ (l : List (List Int)) (k : Int), mkIss k (l ++ [xs]) = mkIss k l ++ [mkIs (iEnd k l) xs.length]
  | [], _ => rfl
  | y :: r, k => by
    show mkIs k y.length :: mkIss (k + (y.length : Int)) (r ++ [xs]) = mkIs k y.length :: (mkIss (k + (y.length : Int)) r ++ [mkIs (iEnd (k + (y.length : Int)) r) xs.length])
    rw [mkIss_snoc xs r]
theorem mkIss_len : ∀ (l : List (List Int)) (k : Int), (mkIss k l).length = l.length
  | [], _ => rfl
  | _ :: r, k => by
    show (mkIss _ r).length + 1 = r.length + 1
    rw [mkIss_len r]
theorem iEnd_ge : ∀ (l : List (List Int)) (k : Int), k ≤ iEnd k l
  | [], _ => Int.le_refl _
  | y :: r, k => by
    have := iEnd_ge r (k + (y.length : Int))
    show k ≤ iEnd (k + (y.length : Int)) r
    omega
theorem iEnd_append (m : List (List Int)) : ∀ (l : List (List Int)) (k : Int), iEnd k (l ++ m) = iEnd (iEnd k l) m
  | [], _ => rfl
  | _ :: r, _ => iEnd_append m r _

/-- w' is w but for blocks of S and new ones. -/
structure MkS (S : Nat → Prop) (w w' : World) : Prop where
  rest : Below 0 w w'
  block : ∀ g, g < w.heap.size → ¬ S g → w'.heap[g]? = w.heap[g]?
theorem MkS.refl (S : Nat → Prop) (w : World) : MkS S w w := ⟨Below.refl _ _, fun _ _ _ => rfl⟩
theorem MkS.trans {S : Nat → Prop} {a b c : World} (h : MkS S a b) (k : MkS S b c) : MkS S a c :=
  ⟨h.rest.trans k.rest, fun g hg hs => (k.block g (Nat.lt_of_lt_of_le hg h.rest.size) hs).trans (h.block g hg hs)⟩
theorem MkS.of_one {S : Nat → Prop} {ob : Option Nat} {a b : World} (h : MkO ob a b) (hs : ∀ g, ob = some g → S g) : MkS S a b := ⟨h.rest, fun g hg hn => h.block g hg (fun e => hn (hs g e))⟩
theorem MkS.below {S : Nat → Prop} {w w' : World} {B : Nat} (h : MkS S w w') (hB : B ≤ w.heap.size) (hs : ∀ g, S g → B ≤ g) : Below B w w' :=
  ⟨h.rest.os, h.rest.tape, h.rest.output, h.rest.size, fun k hk => h.block k (by omega) (fun hS => by have := hs k hS; omega)⟩

/-- One of the lists is written anew. -/
theorem OLL.mark {w w' : World} {base : Nat} {v : Value} {n : Nat} {xss : List (List Int)} {vs : List Value} {i : Nat} {xs ys : List Int} {a : Option Addr} {c : Nat} (h : OLL w base v n xss vs) (hx : xss[i]? = some xs) (hv : vs[i]? = some (.slice a xs.length c)) (hy : ys.length = xs.length)
    (ho : w'.ownsRow base 3 1 (.slice a xs.length c) xs.length (icells ys)) (hm : MkO (Value.slice a xs.length c).ownBlock w w') : OLL w' base v n (xss.set i ys) vs := by
  have hi : i < vs.length := (List.getElem?_eq_some_iff.1 hv).1
  refine ⟨by rw [h.num, List.length_set], by rw [h.len, List.length_set], owns_of_block h.own (fun g hg => hm.block g (h.own.lt g hg).2 (fun e => h.apart _ (List.mem_of_getElem? hv) g hg e)), ?_, h.apart, h.pair⟩
  intro j zs z hz hw
  by_cases hji : j = i
  · subst hji
    rw [List.getElem?_set_self (by rw [← h.len]; exact hi)] at hz
    injection hz with hz
    subst hz
    rw [hv] at hw
    injection hw with hw
    subst hw
    rw [hy]
    exact ⟨⟨a, c, rfl⟩, ho⟩
  · rw [List.getElem?_set_ne (fun e => hji e.symm)] at hz
    obtain ⟨h1, h2⟩ := h.each j zs z hz hw
    refine ⟨h1, owns_of_block h2 (fun g hg => hm.block g (h2.lt g hg).2 (fun e => ?_))⟩
    have hj : j < vs.length := (List.getElem?_eq_some_iff.1 hw).1
    have e1 : vs[j] = z := (List.getElem?_eq_some_iff.1 hw).2
    have e2 : vs[i] = .slice a xs.length c := (List.getElem?_eq_some_iff.1 hv).2
    rcases Nat.lt_or_gt_of_ne hji with hlt | hgt
    · have := List.pairwise_iff_getElem.1 h.pair j i hj hi hlt
      rw [e1, e2] at this
      exact this g hg e
    · have := List.pairwise_iff_getElem.1 h.pair i j hi hj hgt
      rw [e1, e2] at this
      exact this g e hg

set_option maxHeartbeats 1600000 in
theorem markIntSS_own (a : Option Addr) (c : Nat) (xss : List (List Int)) (vs : List Value) (base : Nat) (k0 : Int) (w : World) (ho : OLL w base (.slice a xss.length c) xss.length xss vs) (hl : xss.length ≤ 1048576) (hs : ∀ xs ∈ xss, xs.length ≤ 1048576) (hk : 0 < k0) (hk' : iEnd k0 xss ≤ 100000000) :
    Calls Try.prog 63 #[.slice a xss.length c, .int .i64 k0] w fun e w' =>
      e = .returned (.int .i64 (iEnd k0 xss)) ∧ OLL w' base (.slice a xss.length c) xss.length (mkIss k0 xss) vs ∧ MkS (InLL (.slice a xss.length c) vs) w w' := by
  go_enter Try.func63, Try.ntmps63
  go_wp2
  go_loopw [1, 5] (fun kv i wr => ∃ (j : Nat), j ≤ xss.length ∧ i = .int .i64 j ∧ kv = .int .i64 (iEnd k0 (xss.take j)) ∧ OLL wr base (.slice a xss.length c) xss.length (mkIss k0 (xss.take j) ++ xss.drop j) vs ∧ MkS (InLL (.slice a xss.length c) vs) w wr) (fun _ i _ => xss.length - (intOf i).toNat)
  case atStart => exact ⟨0, by omega, rfl, rfl, by simpa [mkIss] using ho, MkS.refl _ _⟩
  case round =>
    obtain ⟨j, hj, rfl, rfl, ho1, hm⟩ := hrel
    have HO := hidO ho1
    have HM := hidO hm
    clear ho1 hm ho
    by_cases hjl : j < xss.length
    · obtain ⟨xs, hxj⟩ : ∃ xs, xss[j]? = some xs := ⟨xss[j], by simp [hjl]⟩
      have hd : xss.drop j = xs :: xss.drop (j + 1) := drop_cons hxj
      have hpl : (mkIss k0 (xss.take j)).length = j := by rw [mkIss_len]; simp; omega
      have hat : (mkIss k0 (xss.take j) ++ xss.drop j)[j]? = some xs := by rw [List.getElem?_append_right (by omega), hpl, hd]; simp
      obtain ⟨v, hvj⟩ : ∃ v, vs[j]? = some v := ⟨vs[j]'(by rw [HO.out.len, List.length_append, hpl, List.length_drop]; omega), List.getElem?_eq_getElem _⟩
      obtain ⟨⟨a1, c1, rfl⟩, ow⟩ := HO.out.each j xs v hat hvj
      obtain ⟨g, rfl, _, d0, _⟩ := owns_cell HO.out.own hvj
      have ht : xss.take (j + 1) = xss.take j ++ [xs] := take_succ' xss j xs hxj
      have hend : iEnd k0 (xss.take (j + 1)) = iEnd k0 (xss.take j) + (xs.length : Int) := by rw [ht, iEnd_snoc]
      have hge := iEnd_ge (xss.take j) k0
      have hle : iEnd k0 (xss.take (j + 1)) ≤ iEnd k0 xss := by
        have := iEnd_append (xss.drop (j + 1)) (xss.take (j + 1)) k0
        rw [List.take_append_drop] at this
        rw [this]
        exact iEnd_ge _ _
      have HOW := hidO ow
      have HV := hidO hvj
      have HAT := hidO hat
      have HD := hidO hd
      have HEN := hidO hend
      have HTK := hidO ht
      have hxl := hs xs (List.mem_of_getElem? hxj)
      have hk2 : iEnd k0 (xss.take j) + (xs.length : Int) ≤ 100000000 := by omega
      have hk1 : 0 < iEnd k0 (xss.take j) := by omega
      clear ow hvj hat hd ht hend hle
      go_wp2_with (go_at_call 113; refine (markIntS_own a1 c1 xs base _ _ HOW.out hxl hk1 hk2).mono ?_; rintro e w1 ⟨rfl, ow1, hm1⟩)
      have hOL := HO.out.mark HAT.out HV.out (mkIs_len _ _) ow1 hm1
      have hset : (mkIss k0 (xss.take j) ++ xss.drop j).set j (mkIs (iEnd k0 (xss.take j)) xs.length) = mkIss k0 (xss.take (j + 1)) ++ xss.drop (j + 1) := by
        rw [HD.out, List.set_append_right _ _ (by omega), hpl, HTK.out, mkIss_snoc]
        simp
      rw [hset] at hOL
      have hM2 := HM.out.trans (MkS.of_one hm1 (fun g hg => .inr ⟨_, List.mem_of_getElem? HV.out, hg⟩))
      have HOL := hidO hOL
      clear hOL hset
      go_roundw
      case rel => exact ⟨j + 1, by omega, by go_num, by rw [HEN.out], HOL.out, hM2⟩
      case measure => simp [intOf]; omega
    · go_wp2
      go_ret
      obtain rfl : j = xss.length := by omega
      have := HO.out
      rw [List.drop_eq_nil_of_le (Nat.le_refl _), List.append_nil, List.take_of_length_le (Nat.le_refl _)] at this
      exact ⟨by rw [List.take_of_length_le (Nat.le_refl _)]; rfl, this, HM.out⟩

theorem mkIss_at : ∀ (l : List (List Int)) (k : Int) (i : Nat) (xs : List Int), l[i]? = some xs → (mkIss k l)[i]? = some (mkIs (iEnd k (l.take i)) xs.length)
  | [], _, i, _, h => by simp at h
  | y :: r, k, 0, xs, h => by
    simp at h
    subst h
    rfl
  | y :: r, k, i + 1, xs, h => by
    have := mkIss_at r (k + (y.length : Int)) i xs (by simpa using h)
    show (mkIss (k + (y.length : Int)) r)[i]? = _
    rw [this]
    rfl

set_option maxHeartbeats 1600000 in
theorem heldIntSS_any (a : Option Addr) (c : Nat) (xss : List (List Int)) (k0 : Int) (w : World) {q : Option Nat} (hv : IlsAt q w a (mkIss k0 xss)) (hl : xss.length ≤ 1048576) (hs : ∀ xs ∈ xss, xs.length ≤ 1048576) (hk : 0 < k0) (hk' : iEnd k0 xss ≤ 100000000) :
    Calls Try.prog 64 #[.slice a xss.length c, .int .i64 k0] w fun e w' =>
      e = .returned (.int .i64 (iEnd k0 xss)) ∧ Below w.heap.size w w' := by
  go_enter Try.func64, Try.ntmps64
  go_wp2
  go_loopw [1, 5] (fun kv i wr => ∃ (j : Nat), j ≤ xss.length ∧ i = .int .i64 j ∧ kv = .int .i64 (iEnd k0 (xss.take j)) ∧ Below w.heap.size w wr) (fun _ i _ => xss.length - (intOf i).toNat)
  case atStart => exact ⟨0, by omega, rfl, rfl, Below.refl _ _⟩
  case round =>
    obtain ⟨j, hj, rfl, rfl, hb⟩ := hrel
    by_cases hjl : j < xss.length
    · obtain ⟨xs, hxj⟩ : ∃ xs, xss[j]? = some xs := ⟨xss[j], by simp [hjl]⟩
      obtain ⟨b, o, a1, c1, ea, hq, d0, hi⟩ := (hv.below hb).get (mkIss_at xss k0 j xs hxj)
      subst ea
      rw [mkIs_len] at d0
      have ht : xss.take (j + 1) = xss.take j ++ [xs] := take_succ' xss j xs hxj
      have hend : iEnd k0 (xss.take (j + 1)) = iEnd k0 (xss.take j) + (xs.length : Int) := by rw [ht, iEnd_snoc]
      have hge := iEnd_ge (xss.take j) k0
      have hle : iEnd k0 (xss.take (j + 1)) ≤ iEnd k0 xss := by
        have := iEnd_append (xss.drop (j + 1)) (xss.take (j + 1)) k0
        rw [List.take_append_drop] at this
        rw [this]
        exact iEnd_ge _ _
      have HEN := hidO hend
      have HI := hidO hi
      have hxl := hs xs (List.mem_of_getElem? hxj)
      have hk2 : iEnd k0 (xss.take j) + (xs.length : Int) ≤ 100000000 := by omega
      have hk1 : 0 < iEnd k0 (xss.take j) := by omega
      have hpos : ¬ iEnd k0 (xss.take j) + (xs.length : Int) < 0 := by omega
      clear ht hend hle hi
      go_wp2_with (go_at_call 114; refine (heldIntS_any a1 c1 xs.length _ _ HI.out hxl hk1 hk2).mono ?_; rintro e w1 ⟨rfl, hb1⟩)
      go_roundw
      case rel => exact ⟨j + 1, by omega, by go_num, by rw [HEN.out], hb.trans (hb1.mono hb.size)⟩
      case measure => simp [intOf]; omega
    · go_wp2
      go_ret
      obtain rfl : j = xss.length := by omega
      exact ⟨by rw [List.take_of_length_le (Nat.le_refl _)]; rfl, hb⟩
end Go.Proofs.Ytofmgaebgojonaa

/-
  OUR OWN TEXT. Mo0, Nm0, Mi1, Mi2, one behind the other.
-/
import Derived.Test.YtognpkdgphebeaaGreatQa
import Derived.Test.YtognpkdgphebeaaGreatOc
import Derived.Deep.RegionHeld3
import Derived.Deep.DrawnRows
import Derived.Test.YtognpkdgphebeaaGreatWd
import Derived.Test.YtognpkdgphebeaaGreatKe
namespace Go.Proofs.YtognpkdgphebeaaGreat
open Go.RowKit

/-- w' is w but for block b and new ones. -/
structure MkO (b : Option Nat) (w w' : World) : Prop where
  rest : Below 0 w w'
  block : ∀ g, g < w.heap.size → b ≠ some g → w'.heap[g]? = w.heap[g]?
theorem MkO.refl (b : Option Nat) (w : World) : MkO b w w := ⟨Below.refl _ _, fun _ _ _ => rfl⟩
theorem MkO.trans {b : Option Nat} {u v w : World} (h : MkO b u v) (k : MkO b v w) : MkO b u w :=
  ⟨h.rest.trans k.rest, fun g hg hs => (k.block g (Nat.lt_of_lt_of_le hg h.rest.size) hs).trans (h.block g hg hs)⟩
theorem MkO.set {w : World} {g o : Nat} (x : Value) : MkO (some g) w (w.setCell ⟨g, o, none⟩ x) :=
  ⟨(Below.refl _ _).setCell (Nat.zero_le _) _, fun h _ hs => Below.heap_setCell _ _ _ _ (fun e => hs (by rw [e]))⟩
theorem MkO.below {b : Option Nat} {w w' : World} {B : Nat} (h : MkO b w w') (hB : B ≤ w.heap.size) (hs : ∀ g, b = some g → B ≤ g) : Below B w w' :=
  ⟨h.rest.os, h.rest.tape, h.rest.output, h.rest.size, fun k hk => h.block k (by omega) (fun e => by have := hs k e; omega)⟩
end Go.Proofs.YtognpkdgphebeaaGreat

namespace Go.Proofs.YtognpkdgphebeaaGreat
open Go.RowKit
attribute [local go_sem ↓] Go.wp_at_zero Go.wp_at_succ

theorem hidN {p : Prop} (h : p) : Hid p := h
def mkIs (k : Int) (n : Nat) : List Int := (List.range n).map fun (j : Nat) => k + (j : Int)
theorem mkIs_len (k : Int) (n : Nat) : (mkIs k n).length = n := by simp [mkIs]
theorem mkIs_succ (k : Int) (n : Nat) : mkIs k (n + 1) = mkIs k n ++ [k + (n : Int)] := by simp [mkIs, List.range_succ]
theorem mkIs_at (k : Int) (n i : Nat) (h : i < n) : (mkIs k n)[i]? = some (k + (i : Int)) := by simp [mkIs, h]

set_option maxHeartbeats 800000 in
theorem markIntS_own (a : Option Addr) (c : Nat) (xs : List Int) (base : Nat) (k0 : Int) (w : World) (ho : w.ownsRow base 3 1 (.slice a xs.length c) xs.length (icells xs)) (hl : xs.length ≤ 1048576) (hk : 0 < k0) (hk' : k0 + (xs.length : Int) ≤ 100000000) :
    Calls Tryz.prog 22 #[.slice a xs.length c, .int .i64 k0] w fun e w' =>
      e = .returned (.int .i64 (k0 + (xs.length : Int))) ∧ w'.ownsRow base 3 1 (.slice a xs.length c) xs.length (icells (mkIs k0 xs.length)) ∧ MkO (Value.slice a xs.length c).ownBlock w w' := by
  go_enter Tryz.func22, Tryz.ntmps22
  go_wp2
  go_loopw [1, 5] (fun kv i wr => ∃ (j : Nat), j ≤ xs.length ∧ i = .int .i64 j ∧ kv = .int .i64 (k0 + (j : Int)) ∧ wr.ownsRow base 3 1 (.slice a xs.length c) xs.length (icells (mkIs k0 j ++ xs.drop j)) ∧ MkO (Value.slice a xs.length c).ownBlock w wr) (fun _ i _ => xs.length - (intOf i).toNat)
  case atStart => exact ⟨0, by omega, rfl, by simp, by simpa [mkIs] using ho, MkO.refl _ _⟩
  case round =>
    obtain ⟨j, hj, rfl, rfl, ho1, hm⟩ := hrel
    have HO := hidN ho1
    have HM := hidN hm
    clear ho1 hm ho
    by_cases hjl : j < xs.length
    · obtain ⟨v, hvj⟩ : ∃ v, xs[j]? = some v := ⟨xs[j], by simp [hjl]⟩
      have hd : xs.drop j = v :: xs.drop (j + 1) := drop_cons hvj
      have hcells : icells (mkIs k0 j ++ xs.drop j) = icells (mkIs k0 j) ++ ([Value.int .i64 v] ++ icells (xs.drop (j + 1))) := by
        rw [hd]
        simp [icells]
      have hAl : (icells (mkIs k0 j)).length = j := by simp [icells, mkIs_len]
      have ho2 := HO.out
      rw [hcells] at ho2
      obtain ⟨g, rfl, hbg, c0, f0⟩ := owns_cell (j := j) (x := .int .i64 v) ho2 (by rw [List.getElem?_append_right (by omega), hAl]; simp)
      have hw1 : IntKind.i64.wrap (k0 + (j : Int) + 1) = k0 + ((j : Int) + 1) := by rw [IntKind.wrap_i64]; omega
      have H2 := hidN ho2
      clear ho2 hcells hd
      go_wp2
      have s3 := (H2.out.stored j (.int .i64 (k0 + (j : Int)))).1
      have hset : (icells (mkIs k0 j) ++ ([Value.int .i64 v] ++ icells (xs.drop (j + 1)))).set j (Value.int .i64 (k0 + (j : Int))) = icells (mkIs k0 (j + 1) ++ xs.drop (j + 1)) := by
        rw [List.set_append_right _ _ (by omega), hAl, mkIs_succ]
        simp [icells]
      rw [hset] at s3
      have m2 := HM.out.trans (MkO.set (w := wr) (g := g) (o := j) (.int .i64 (k0 + (j : Int))))
      have hcast : ((j + 1 : Nat) : Int) = (j : Int) + 1 := by omega
      go_roundw
      case rel => exact ⟨j + 1, by omega, by go_num, by rw [hcast], s3, m2⟩
      case measure => simp [intOf]; omega
    · go_wp2
      go_ret
      obtain rfl : j = xs.length := by omega
      have := HO.out
      rw [List.drop_eq_nil_of_le (Nat.le_refl _), List.append_nil] at this
      exact ⟨rfl, this, HM.out⟩

set_option maxHeartbeats 800000 in
theorem heldIntS_any (a : Option Addr) (c n : Nat) (k0 : Int) (w : World) {q : Option Nat} (hv : IntsAt q w a (mkIs k0 n)) (hl : n ≤ 1048576) (hk : 0 < k0) (hk' : k0 + (n : Int) ≤ 100000000) :
    Calls Tryz.prog 65 #[.slice a n c, .int .i64 k0] w fun e w' =>
      e = .returned (.int .i64 (k0 + (n : Int))) ∧ Below w.heap.size w w' := by
  go_enter Tryz.func65, Tryz.ntmps65
  go_wp2
  go_loopw [1, 5] (fun kv i wr => ∃ (j : Nat), j ≤ n ∧ i = .int .i64 j ∧ kv = .int .i64 (k0 + (j : Int)) ∧ Below w.heap.size w wr) (fun _ i _ => n - (intOf i).toNat)
  case atStart => exact ⟨0, by omega, rfl, by simp, Below.refl _ _⟩
  case round =>
    obtain ⟨j, hj, rfl, rfl, hb⟩ := hrel
    by_cases hjl : j < n
    · obtain ⟨b, o, ea, _, d0⟩ := (hv.below hb).get (mkIs_at k0 n j hjl)
      subst ea
      have hw1 : IntKind.i64.wrap (k0 + (j : Int) + 1) = k0 + ((j : Int) + 1) := by rw [IntKind.wrap_i64]; omega
      have hcast : ((j + 1 : Nat) : Int) = (j : Int) + 1 := by omega
      go_wp2
      go_roundw
      case rel => exact ⟨j + 1, by omega, by go_num, by rw [hcast], hb⟩
      case measure => simp [intOf]; omega
    · go_wp2
      go_ret
      obtain rfl : j = n := by omega
      exact ⟨rfl, hb⟩
end Go.Proofs.YtognpkdgphebeaaGreat

namespace Go.Proofs.YtognpkdgphebeaaGreat
open Go.RowKit
attribute [local go_sem ↓] Go.wp_at_zero Go.wp_at_succ

def iEnd (k : Int) : List Nat → Int
  | [] => k
  | n :: r => iEnd (k + 1 + (n : Int)) r
def mkIts (k : Int) : List Nat → List It
  | [] => []
  | n :: r => ⟨k, mkIs (k + 1) n⟩ :: mkIts (k + 1 + (n : Int)) r
theorem mkIts_len : ∀ (ns : List Nat) (k : Int), (mkIts k ns).length = ns.length
  | [], _ => rfl
  | n :: r, k => by simp [mkIts, mkIts_len r]
theorem iEnd_snoc : ∀ (ns : List Nat) (k : Int) (n : Nat), iEnd k (ns ++ [n]) = iEnd k ns + 1 + (n : Int)
  | [], _, _ => rfl
  | m :: r, k, n => by simp only [List.cons_append, iEnd]; exact iEnd_snoc r _ n
theorem mkIts_snoc : ∀ (ns : List Nat) (k : Int) (n : Nat), mkIts k (ns ++ [n]) = mkIts k ns ++ [⟨iEnd k ns, mkIs (iEnd k ns + 1) n⟩]
  | [], _, _ => rfl
  | m :: r, k, n => by simp only [List.cons_append, mkIts, iEnd]; rw [mkIts_snoc r _ n]
theorem iEnd_le {N : Nat} : ∀ (ns : List Nat) (k : Int), (∀ n ∈ ns, n ≤ N) → k ≤ iEnd k ns ∧ iEnd k ns ≤ k + ns.length * (N + 1)
  | [], k, _ => by simp [iEnd]
  | n :: r, k, h => by
    have h1 := h n (by simp)
    have h2 := iEnd_le r (k + 1 + (n : Int)) (fun m hm => h m (by simp [hm]))
    simp only [iEnd, List.length_cons]
    have e : ((r.length + 1 : Nat) : Int) * ((N : Int) + 1) = r.length * ((N : Int) + 1) + ((N : Int) + 1) := by rw [Int.natCast_add, Int.add_mul]; simp
    omega
theorem iEnd_take_le {N : Nat} (ns : List Nat) (k : Int) (h : ∀ n ∈ ns, n ≤ N) (j : Nat) : k ≤ iEnd k (ns.take j) ∧ iEnd k (ns.take j) ≤ k + ns.length * (N + 1) := by
  obtain ⟨h1, h2⟩ := iEnd_le (N := N) (ns.take j) k (fun n hn => h n (List.mem_of_mem_take hn))
  refine ⟨h1, Int.le_trans h2 ?_⟩
  have h3 : (ns.take j).length ≤ ns.length := by rw [List.length_take]; omega
  have h4 : ((ns.take j).length * (N + 1) : Nat) ≤ (ns.length * (N + 1) : Nat) := Nat.mul_le_mul_right _ h3
  have h5 : (((ns.take j).length * (N + 1) : Nat) : Int) ≤ ((ns.length * (N + 1) : Nat) : Int) := by omega
  simp only [Int.natCast_mul, Int.natCast_add] at h5
  simpa using h5
theorem take_snoc {α : Type} {l : List α} {j : Nat} {x : α} (h : l[j]? = some x) : l.take (j + 1) = l.take j ++ [x] := by
  rw [List.take_add_one, h]
  rfl
theorem mkIts_at {ns : List Nat} {k : Int} {j n : Nat} (h : ns[j]? = some n) : (mkIts k ns)[j]? = some ⟨iEnd k (ns.take j), mkIs (iEnd k (ns.take j) + 1) n⟩ := by
  have hj : j < ns.length := (List.getElem?_eq_some_iff.1 h).1
  have key : ∀ (l : List Nat) (k : Int) (j : Nat), l[j]? = some n → (mkIts k l)[j]? = some ⟨iEnd k (l.take j), mkIs (iEnd k (l.take j) + 1) n⟩ := by
    intro l
    induction l with
    | nil => intro k j h; simp at h
    | cons m r ih =>
      intro k j h
      rcases j with _ | j
      · simp at h
        subst h
        rfl
      · simp only [mkIts, List.getElem?_cons_succ, List.take_succ_cons, iEnd]
        exact ih _ _ (by simpa using h)
  exact key ns k j h
set_option maxHeartbeats 800000 in
theorem eqInst_same (x : It) (a a' : Option Addr) (c c' : Nat) (w : World) {q q' : Option Nat} (hv : IntsAt q w a x.tags) (hv' : IntsAt q' w a' x.tags) (hl : x.tags.length ≤ 1048576) :
    Calls Tryz.prog 64 #[.agg #[.int .i64 x.rule, .slice a x.tags.length c], .agg #[.int .i64 x.rule, .slice a' x.tags.length c']] w fun e w' =>
      e = .returned (.bool true) ∧ Below w.heap.size w w' := by
  have B0 : ∀ o o', Below w.heap.size w ((w.alloc o).alloc o') := fun o o' => ((Below.refl _ _).alloc (Nat.le_refl _) _).alloc (by simp) _
  go_enter Tryz.func64, Tryz.ntmps64
  go_wp2_with (go_at_call 16; refine (eqIntS_same a a' c c' x.tags _ (hv.below (B0 _ _)) (hv'.below (B0 _ _)) hl).mono ?_; rintro e w1 ⟨rfl, hb1⟩; have hB1 : Below w.heap.size w w1 := (B0 _ _).trans (hb1.mono (by simp; omega)))
  go_ret
  exact ⟨rfl, hB1⟩
set_option maxHeartbeats 1600000 in
theorem eqInstS_same (a a' : Option Addr) (c c' : Nat) (xs : List It) (w : World) (hv : ItsAt w a xs) (hv' : ItsAt w a' xs) (hl : xs.length ≤ 1048576) (hs : ∀ x ∈ xs, x.tags.length ≤ 1048576) :
    Calls Tryz.prog 31 #[.slice a xs.length c, .slice a' xs.length c'] w fun e w' =>
      e = .returned (.bool true) ∧ Below w.heap.size w w' := by
  go_enter Tryz.func31, Tryz.ntmps31
  go_wp2
  go_loopw [5] (fun i wr => ∃ (k : Nat), k ≤ xs.length ∧ i = .int .i64 k ∧ Below w.heap.size w wr) (fun i _ => xs.length - (intOf i).toNat)
  case atStart => exact ⟨0, by omega, rfl, Below.refl _ _⟩
  case round =>
    obtain ⟨k, hk, rfl, hb⟩ := hrel
    by_cases hkl : k < xs.length
    · obtain ⟨x, hxk⟩ : ∃ x, xs[k]? = some x := ⟨xs[k], by simp [hkl]⟩
      obtain ⟨b, o, ta, tc, rfl, c0, c1, hi⟩ := (hv.below hb) k x hxk
      obtain ⟨b', o', ta', tc', rfl, d0, d1, hi'⟩ := (hv'.below hb) k x hxk
      have z0 : (0 : Int) ≤ (k : Int) := by omega
      have z1 : (k : Int) < (xs.length : Int) := by omega
      have hsx := hs x (List.mem_of_getElem? hxk)
      have HE := hidN (fun w' (h : Below wr.heap.size wr w') => eqInst_same x ta ta' tc tc' w' (hi.below h) (hi'.below h) hsx)
      have B1 : Below wr.heap.size wr wr.drew := (Below.refl _ _).drew
      clear hi hi'
      go_wp2
      go_region_held3 (fun w' => w'.cell? ⟨b, o + k * 2, none⟩ = some (.int .i64 x.rule) ∧ w'.cell? ⟨b, o + k * 2 + 1, none⟩ = some (.slice ta x.tags.length tc) ∧ w'.cell? ⟨b', o' + k * 2, none⟩ = some (.int .i64 x.rule) ∧ w'.cell? ⟨b', o' + k * 2 + 1, none⟩ = some (.slice ta' x.tags.length tc')) ((go_split_ands; refine ⟨?_, ?_, ?_, ?_⟩ <;> first | (simp [*]; done) | exact cell_below hb' (by simp [*])))
        (first | (go_at_call 64; refine (HE.out _ B1).mono ?_; rintro e w' ⟨rfl, hb'⟩))
      go_wp2
      go_roundw
      case rel => exact ⟨k + 1, by omega, by go_num, hb.drew.trans (hb'.mono hb.size)⟩
      case measure => simp [intOf]; omega
    · go_wp2
      go_ret
      exact ⟨rfl, hb⟩
theorem itFlat_set {L : List ItX} {j : Nat} {x : It} {v : Value} (h : L[j]? = some (x, v)) (K : Int) : (L.flatMap itCells).set (j * 2) (.int .i64 K) = (L.set j (⟨K, x.tags⟩, v)).flatMap itCells := by
  have key : ∀ (l : List ItX) (j : Nat), l[j]? = some (x, v) → (l.flatMap itCells).set (j * 2) (.int .i64 K) = (l.set j (⟨K, x.tags⟩, v)).flatMap itCells := by
    intro l
    induction l with
    | nil => intro j h; simp at h
    | cons y r ih =>
      intro j h
      rcases j with _ | j
      · simp at h
        subst h
        simp [itCells]
      · rw [List.getElem?_cons_succ] at h
        rw [List.flatMap_cons, List.set_cons_succ, List.flatMap_cons, List.set_append_right _ _ (by simp [itCells]; omega), show (j + 1) * 2 - (itCells y).length = j * 2 by simp [itCells]; omega, ih j h]
  exact key L j h
/-- A rule's number is written. -/
theorem Iw.rule {w : World} {b base : Nat} {g c : Nat} {L : List ItX} {j : Nat} {x : It} {v : Value} (h : Iw w b base (some ⟨g, 0, none⟩) c L) (hj : L[j]? = some (x, v)) (K : Int) : Iw (w.setCell ⟨g, j * 2, none⟩ (.int .i64 K)) b base (some ⟨g, 0, none⟩) c (L.set j (⟨K, x.tags⟩, v)) := by
  obtain ⟨cc, hc⟩ := own_type h.row (k := g) rfl
  refine ⟨?_, fun y hy => ?_⟩
  · have h1 := (h.row.stored (j * 2) (.int .i64 K)).1
    rw [itFlat_set hj K] at h1
    simpa using h1
  · have hy' : ItP w base y := by
      rcases List.mem_or_eq_of_mem_set hy with hy | rfl
      · exact h.all y hy
      · have h2 := h.all _ (List.mem_of_getElem? hj)
        exact ⟨h2.ts, h2.ot⟩
    exact ⟨hy'.ts, own_set hy'.ot hc (by decide)⟩
/-- An instantiation's tags are written. -/
theorem Iw.tags {w w' : World} {b base : Nat} {a : Option Addr} {c : Nat} {L : List ItX} {j : Nat} {x : It} {v : Value} {ys : List Int} (h : Iw w b base a c L) (hp : (L.map Prod.snd).Pairwise Apart) (hj : L[j]? = some (x, v)) (hl : ys.length = x.tags.length) (hm : MkO v.ownBlock w w') (ho : w'.ownsRow base 3 1 v x.tags.length (icells ys)) : Iw w' b base a c (L.set j (⟨x.rule, ys⟩, v)) := by
  have hx := h.all _ (List.mem_of_getElem? hj)
  have hjl : j < L.length := (List.getElem?_eq_some_iff.1 hj).1
  refine ⟨?_, fun y hy => ?_⟩
  · have h1 : w'.ownsRow b 123 2 (.slice a L.length c) L.length (L.flatMap itCells) := owns_of_block h.row (fun g hg => hm.block g (h.row.lt g hg).2 (fun e => by
      obtain ⟨_, h1⟩ := own_type h.row hg
      obtain ⟨_, h2⟩ := own_type hx.ot e
      exact own_far h1 h2 (by decide)))
    have e : (L.set j (⟨x.rule, ys⟩, v)).flatMap itCells = L.flatMap itCells := by
      have e1 := itFlat_set (L := L) hj x.rule
      have e2 : ∀ (l : List ItX) (j : Nat), l[j]? = some (x, v) → (l.set j (⟨x.rule, ys⟩, v)).flatMap itCells = l.flatMap itCells := by
        intro l
        induction l with
        | nil => intro j h; simp at h
        | cons y r ih =>
          intro j h
          rcases j with _ | j
          · simp at h
            subst h
            rfl
          · rw [List.getElem?_cons_succ] at h
            rw [List.set_cons_succ, List.flatMap_cons, List.flatMap_cons, ih j h]
      exact e2 L j hj
    rw [e]
    simpa using h1
  · obtain ⟨i, hi, rfl⟩ := List.getElem_of_mem hy
    have hil : i < L.length := by simpa using hi
    by_cases hij : i = j
    · subst hij
      simp only [List.getElem_set_self]
      obtain ⟨⟨a', c', e1⟩, _⟩ := hx
      simp only at e1
      exact ⟨⟨a', c', by rw [hl]; exact e1⟩, by simp only [hl]; exact ho⟩
    · rw [List.getElem_set_ne (Ne.symm hij)]
      have hy' := h.all _ (List.getElem_mem hil)
      refine ⟨hy'.ts, owns_of_block hy'.ot (fun g hg => hm.block g (hy'.ot.lt g hg).2 (fun e => ?_))⟩
      have hL : L[j] = (x, v) := by
        have := List.getElem?_eq_getElem hjl
        rw [hj] at this
        injection this with this
        exact this.symm
      have hpw := List.pairwise_iff_getElem.1 hp
      rcases Nat.lt_or_gt_of_ne hij with hlt | hlt
      · have h3 := hpw i j (by simpa using hil) (by simpa using hjl) hlt
        simp only [List.getElem_map, hL] at h3
        exact h3 g hg e
      · have h3 := hpw j i (by simpa using hjl) (by simpa using hil) hlt
        simp only [List.getElem_map, hL] at h3
        exact h3 g e hg
end Go.Proofs.YtognpkdgphebeaaGreat

namespace Go.Proofs.YtognpkdgphebeaaGreat
open Go.RowKit
attribute [local go_sem ↓] Go.wp_at_zero Go.wp_at_succ

def lensOf (L : List It) : List Nat := L.map (fun x => x.tags.length)
theorem set_drop {α : Type} {A B : List α} {j : Nat} (hA : A.length = j) (x y : α) : (A ++ x :: B).set j y = A ++ [y] ++ B := by
  subst hA
  simp
theorem set_same {α : Type} {l : List α} {j : Nat} {x : α} (h : l[j]? = some x) : l.set j x = l := by
  obtain ⟨hj, rfl⟩ := List.getElem?_eq_some_iff.1 h
  exact List.set_getElem_self hj
set_option maxRecDepth 100000 in
set_option maxHeartbeats 3200000 in
theorem markInstS_any (M : List ItX) (a : Option Addr) (c base : Nat) (w : World) (h : Iw w base base a c M) (hp : M.Pairwise (fun x y => Apart x.2 y.2)) (hl : M.length ≤ 1048576) (h6 : ∀ n ∈ lensOf (M.map Prod.fst), n ≤ 6) (hbs : base ≤ w.heap.size) :
    Calls Tryz.prog 34 #[.slice a M.length c, .int .i64 1] w fun e w' => e = .returned (.int .i64 (iEnd 1 (lensOf (M.map Prod.fst)))) ∧ ItsAt w' a (mkIts 1 (lensOf (M.map Prod.fst))) ∧ Below base w w' := by
  obtain ⟨ns, hns⟩ : ∃ l, l = lensOf (M.map Prod.fst) := ⟨_, rfl⟩
  rw [← hns] at h6 ⊢
  have hnl : ns.length = M.length := by rw [hns]; simp [lensOf]
  have HNL := hidN hnl
  have HE := hidN (fun j => iEnd_take_le (N := 6) ns 1 h6 j)
  have hpv : (M.map Prod.snd).Pairwise Apart := by rw [List.pairwise_map]; exact hp
  have HP := hidN hpv
  have H0 := hidN h
  have HNS := hidN hns
  clear h hp hpv hns hnl
  go_enter Tryz.func34, Tryz.ntmps34
  go_wp2
  go_loopw [1, 5] (fun kv i wr => ∃ (j : Nat) (N : List ItX), j ≤ M.length ∧ i = .int .i64 j ∧ kv = .int .i64 (iEnd 1 (ns.take j)) ∧ N.length = M.length ∧ N.map Prod.snd = M.map Prod.snd ∧ N.map Prod.fst = mkIts 1 (ns.take j) ++ (M.map Prod.fst).drop j ∧ Iw wr base base a c N ∧ Below base w wr) (fun _ i _ => M.length - (intOf i).toNat)
  case atStart => exact ⟨0, M, by omega, rfl, rfl, rfl, rfl, by simp [mkIts], H0.out, Below.refl _ _⟩
  case round =>
    obtain ⟨j, N, hj, rfl, rfl, hNl, hNv, hNf, hIO, hb⟩ := hrel
    have HNl := hidN hNl
    have HNv := hidN hNv
    have HNf := hidN hNf
    have HIO := hidN hIO
    have HB := hidN hb
    clear hNl hNv hNf hIO hb
    by_cases hjl : j < M.length
    · obtain ⟨⟨x, v⟩, hxv⟩ : ∃ x, N[j]? = some x := ⟨N[j]'(by rw [HNl.out]; exact hjl), by simp⟩
      obtain ⟨m, hm⟩ : ∃ m, ns[j]? = some m := ⟨ns[j]'(by rw [HNL.out]; exact hjl), by simp⟩
      obtain ⟨y, hy⟩ : ∃ y, (M.map Prod.fst)[j]? = some y := ⟨M[j].1, by simp [hjl]⟩
      have hcl : (mkIts 1 (ns.take j)).length = j := by rw [mkIts_len, List.length_take, HNL.out]; omega
      have hxy : x = y := by
        have e1 : (N.map Prod.fst)[j]? = some x := by rw [List.getElem?_map, hxv]; rfl
        rw [HNf.out, List.getElem?_append_right (by omega), hcl, List.getElem?_drop] at e1
        simp only [Nat.sub_self, Nat.add_zero] at e1
        rw [hy] at e1
        injection e1 with e1
        exact e1.symm
      subst hxy
      have hmx : m = x.tags.length := by
        have e1 := hm
        rw [HNS.out] at e1
        unfold lensOf at e1
        rw [List.getElem?_map, hy] at e1
        injection e1 with e1
        exact e1.symm
      subst hmx
      have hm6 := h6 _ (List.mem_of_getElem? hm)
      obtain ⟨g, rfl, hbg, hgl, c0, c1, f0⟩ := HIO.out.get hxv
      obtain ⟨⟨ta, tc, e1⟩, hot⟩ := HIO.out.all _ (List.mem_of_getElem? hxv)
      simp only at e1 hot c0 c1
      subst e1
      obtain ⟨K, eK⟩ : ∃ z : Int, z = iEnd 1 (ns.take j) := ⟨_, rfl⟩
      have hK := HE.out j
      rw [← eK] at hK ⊢
      have hnm : (ns.length : Int) ≤ 1048576 := by rw [HNL.out]; omega
      have hK1 : 0 < K ∧ K ≤ 8000000 := by omega
      have hw1 : IntKind.i64.wrap (K + 1) = K + 1 := by rw [IntKind.wrap_i64]; omega
      have IO1 := hidN (HIO.out.rule hxv K)
      have c1' : (wr.setCell ⟨g, j * 2, none⟩ (.int .i64 K)).cell? ⟨g, j * 2 + 1, none⟩ = some (.slice ta x.tags.length tc) := (World.cell?_setCell_other _ _ _ _ (fun e => by injection e with _ e _; omega)).trans c1
      have B1 := hidN (HB.out.trans (MkO.below (MkO.set (w := wr) (g := g) (o := j * 2) (.int .i64 K)) (Nat.le_trans hbs HB.out.size) (fun g' hg' => by injection hg' with hg'; omega)))
      have HX := hidN hxv
      have HM := hidN hm
      have HY := hidN hy
      have EK := hidN eK
      clear hxv hm hy eK hot hcl
      go_upto_region 6 with fail
      obtain ⟨w1, hw⟩ : ∃ v, v = wr.setCell ⟨g, j * 2, none⟩ (.int .i64 K) := ⟨_, rfl⟩
      rw [← hw] at IO1 B1 c1' ⊢
      clear hw c0 c1 f0
      have HX1 := hidN (show (N.set j (⟨K, x.tags⟩, .slice ta x.tags.length tc))[j]? = some (⟨K, x.tags⟩, .slice ta x.tags.length tc) by rw [List.getElem?_set_self (by rw [HNl.out]; exact hjl)])
      have hot1 := (IO1.out.all _ (List.mem_of_getElem? HX1.out)).ot
      have HMI := hidN (markIntS_own ta tc x.tags base (K + 1) w1 hot1 (by omega) (by omega) (by omega))
      clear hot1
      go_wp2_with fail
      refine HMI.out.mono ?_
      rintro e w2 ⟨rfl, ho2, hm2⟩
      have HV1 := hidN (show (N.set j (⟨K, x.tags⟩, .slice ta x.tags.length tc)).map Prod.snd = M.map Prod.snd by rw [List.map_set, ← HNv.out]; exact set_same (by rw [List.getElem?_map, HX.out]; rfl))
      have IO2 := hidN (IO1.out.tags (by rw [HV1.out]; exact HP.out) HX1.out (by rw [mkIs_len]) hm2 ho2)
      have B2 := hidN (B1.out.trans (hm2.below (Nat.le_trans hbs B1.out.size) (fun g' hg' => ((IO1.out.all _ (List.mem_of_getElem? HX1.out)).ot.lt g' hg').1)))
      have HF := hidN (show (((N.set j (⟨K, x.tags⟩, .slice ta x.tags.length tc)).set j (⟨K, mkIs (K + 1) x.tags.length⟩, .slice ta x.tags.length tc))).map Prod.fst = mkIts 1 (ns.take (j + 1)) ++ (M.map Prod.fst).drop (j + 1) by
        rw [List.set_set, List.map_set, HNf.out, drop_cons HY.out, set_drop (by rw [mkIts_len, List.length_take, HNL.out]; omega), take_snoc HM.out, mkIts_snoc, ← EK.out])
      have HKE := hidN (show K + 1 + (x.tags.length : Int) = iEnd 1 (ns.take (j + 1)) by rw [take_snoc HM.out, iEnd_snoc, ← EK.out])
      rw [HKE.out]
      clear ho2 hm2 HMI
      go_wp2_with fail
      go_roundw
      case rel => exact ⟨j + 1, _, by omega, by go_num, rfl, by rw [List.length_set, List.length_set]; exact HNl.out, by rw [List.map_set, HV1.out]; exact set_same (by rw [← HNv.out, List.getElem?_map, HX.out]; rfl), HF.out, IO2.out, B2.out⟩
      case measure => simp [intOf]; omega
    · have hje : j = M.length := by omega
      have HQ := hidN (show ns.take j = ns from List.take_of_length_le (by rw [HNL.out]; omega))
      have HA := hidN (show ItsAt wr a (mkIts 1 ns) by
        have h1 := HIO.out.at
        rw [HNf.out, HQ.out, List.drop_eq_nil_of_le (by simp; omega), List.append_nil] at h1
        exact h1)
      rw [HQ.out]
      clear hje
      go_wp2
      go_ret
      exact ⟨rfl, HA.out, HB.out⟩
set_option maxHeartbeats 1600000 in
theorem heldInstS_any (ns : List Nat) (a : Option Addr) (c : Nat) (w : World) (hv : ItsAt w a (mkIts 1 ns)) (hl : ns.length ≤ 1048576) (h6 : ∀ n ∈ ns, n ≤ 6) :
    Calls Tryz.prog 35 #[.slice a ns.length c, .int .i64 1] w fun e w' => e = .returned (.int .i64 (iEnd 1 ns)) ∧ Below w.heap.size w w' := by
  have HE := hidN (fun j => iEnd_take_le (N := 6) ns 1 h6 j)
  have HV := hidN hv
  clear hv
  go_enter Tryz.func35, Tryz.ntmps35
  go_wp2
  go_loopw [1, 5] (fun kv i wr => ∃ (j : Nat), j ≤ ns.length ∧ i = .int .i64 j ∧ kv = .int .i64 (iEnd 1 (ns.take j)) ∧ Below w.heap.size w wr) (fun _ i _ => ns.length - (intOf i).toNat)
  case atStart => exact ⟨0, by omega, rfl, rfl, Below.refl _ _⟩
  case round =>
    obtain ⟨j, hj, rfl, rfl, hb⟩ := hrel
    have HB := hidN hb
    clear hb
    by_cases hjl : j < ns.length
    · obtain ⟨m, hm⟩ : ∃ m, ns[j]? = some m := ⟨ns[j], by simp [hjl]⟩
      have hm6 := h6 _ (List.mem_of_getElem? hm)
      obtain ⟨b, o, ta, tc, rfl, c0, c1, hi⟩ := (HV.out.below HB.out) j _ (mkIts_at hm)
      simp only [mkIs_len] at c0 c1 hi
      have HKE := hidN (show iEnd 1 (ns.take j) + 1 + (m : Int) = iEnd 1 (ns.take (j + 1)) by rw [take_snoc hm, iEnd_snoc])
      obtain ⟨K, eK⟩ : ∃ z : Int, z = iEnd 1 (ns.take j) := ⟨_, rfl⟩
      have hK := HE.out j
      rw [← eK] at hK c0 hi HKE ⊢
      have hK1 : 0 < K ∧ K ≤ 8000000 := by omega
      have hw1 : IntKind.i64.wrap (K + 1) = K + 1 := by rw [IntKind.wrap_i64]; omega
      have HHI := hidN (heldIntS_any ta tc m (K + 1) wr hi (by omega) (by omega) (by omega))
      have b1 : ¬ K + 1 + (m : Int) < 0 := by omega
      clear hi eK hm
      go_wp2_with fail
      refine HHI.out.mono ?_
      rintro e w1 ⟨rfl, hb1⟩
      have B1 := hidN (HB.out.trans (hb1.mono HB.out.size))
      clear hb1 HHI
      go_wp2_with fail
      rw [HKE.out]
      go_roundw
      case rel => exact ⟨j + 1, by omega, by go_num, rfl, B1.out⟩
      case measure => simp [intOf]; omega
    · have HQ := hidN (show ns.take j = ns from List.take_of_length_le (by omega))
      rw [HQ.out]
      go_wp2
      go_ret
      exact ⟨rfl, HB.out⟩
end Go.Proofs.YtognpkdgphebeaaGreat

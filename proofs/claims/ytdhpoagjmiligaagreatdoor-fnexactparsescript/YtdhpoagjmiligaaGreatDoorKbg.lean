/-
  OUR OWN TEXT. Cm2, Cm3, one behind the other.
-/
import Derived.Test.YtdhpoagjmiligaaGreatDoorCm1m
import Derived.Test.YtdhpoagjmiligaaGreatDoorKbc
namespace Go.Proofs.YtdhpoagjmiligaaGreatDoor
open Go.RowKit
attribute [local go_sem ↓] Go.wp_at_zero Go.wp_at_succ

/-- Commands that can be read. -/
def CdsAt (w : World) (a : Option Addr) (l : List Cd) : Prop := ∀ (j : Nat) (x : Cd), l[j]? = some x → ∃ b o, a = some ⟨b, o, none⟩ ∧ w.cell? ⟨b, o + j * 4, none⟩ = some (.int .i64 x.kind) ∧ w.cell? ⟨b, o + j * 4 + 1, none⟩ = some (.int .i64 x.n) ∧ w.cell? ⟨b, o + j * 4 + 2, none⟩ = some (.string x.cls) ∧ ∃ s cs, w.cell? ⟨b, o + j * 4 + 3, none⟩ = some (.slice s x.slots.length cs) ∧ ValsAt w s x.slots
theorem CdsAt.below {w w' : World} {a : Option Addr} {l : List Cd} (h : CdsAt w a l) (hb : Below w.heap.size w w') : CdsAt w' a l := fun j x hx => by
  obtain ⟨b, o, e, h0, h1, h2, s, cs, h3, h4⟩ := h j x hx
  exact ⟨b, o, e, cell_below hb h0, cell_below hb h1, cell_below hb h2, s, cs, cell_below hb h3, h4.below hb⟩
theorem cdC_len (M : List CdX) : (M.flatMap cdC).length = M.length * 4 := by
  induction M with
  | nil => rfl
  | cons x r ih => rw [List.flatMap_cons, List.length_append, ih, List.length_cons]; simp [cdC, cdL]; omega
theorem cdC_at {M : List CdX} {j i : Nat} {x : CdX} {v : Value} (h : M[j]? = some x) (hv : (cdC x)[i]? = some v) : (M.flatMap cdC)[j * 4 + i]? = some v := by
  have hi : i < 4 := by have := (List.getElem?_eq_some_iff.1 hv).1; simpa [cdC, cdL] using this
  have key : ∀ (l : List CdX) (j : Nat), l[j]? = some x → (l.flatMap cdC)[j * 4 + i]? = some v := by
    intro l
    induction l with
    | nil => intro j h; simp at h
    | cons y r ih =>
      intro j h
      cases j with
      | zero =>
        simp at h
        subst h
        rw [List.flatMap_cons, List.getElem?_append_left (by simp [cdC, cdL]; omega), Nat.zero_mul, Nat.zero_add]
        exact hv
      | succ j =>
        rw [List.getElem?_cons_succ] at h
        rw [List.flatMap_cons, List.getElem?_append_right (by simp [cdC, cdL]; omega), show (j + 1) * 4 + i - (cdC y).length = j * 4 + i by simp [cdC, cdL]; omega]
        exact ih j h
  exact key M j h
theorem CO.at {w : World} {B : Nat} {a : Option Addr} {c : Nat} {M : List CdX} (h : CO w B a c M) : CdsAt w a (M.map Prod.fst) := fun j x hx => by
  rw [List.getElem?_map, Option.map_eq_some_iff] at hx
  obtain ⟨⟨y, v⟩, hy, rfl⟩ := hx
  obtain ⟨la, lc, hv, ho⟩ := h.all (y, v) (List.mem_of_getElem? hy)
  obtain ⟨g, rfl, _, h0, _⟩ := owns_cell h.row (cdC_at (i := 0) hy rfl)
  obtain ⟨g1, e1, _, h1, _⟩ := owns_cell h.row (cdC_at (i := 1) hy rfl)
  obtain ⟨g2, e2, _, h2, _⟩ := owns_cell h.row (cdC_at (i := 2) hy rfl)
  obtain ⟨g3, e3, _, h3, _⟩ := owns_cell h.row (cdC_at (i := 3) hy rfl)
  cases e1
  cases e2
  cases e3
  simp only at hv ho
  subst hv
  exact ⟨g, 0, rfl, by simpa using h0, by simpa using h1, by simpa using h2, la, lc, by simpa using h3, ValsAt.owns ho⟩
set_option maxHeartbeats 800000 in
theorem eqCmd_same (x : Cd) (a a' : Option Addr) (c c' : Nat) (w : World) (hv : ValsAt w a x.slots) (hv' : ValsAt w a' x.slots) (hl : x.slots.length ≤ 1048576) :
    Calls Tryz.prog 63 #[.agg #[.int .i64 x.kind, .int .i64 x.n, .string x.cls, .slice a x.slots.length c], .agg #[.int .i64 x.kind, .int .i64 x.n, .string x.cls, .slice a' x.slots.length c']] w fun e w' =>
      e = .returned (.bool true) ∧ Below w.heap.size w w' := by
  have B2 : ∀ o o', Below w.heap.size w ((w.alloc o).alloc o') := fun o o' => ((Below.refl _ _).alloc (Nat.le_refl _) _).alloc (by simp) _
  go_enter Tryz.func63, Tryz.ntmps63
  go_wp2_with (go_at_call 98; refine (eqValueS_same a a' c c' x.slots _ (hv.below (B2 _ _)) (hv'.below (B2 _ _)) hl).mono ?_; rintro e w' ⟨rfl, hb'⟩)
  go_ret
  exact ⟨rfl, (B2 _ _).trans (hb'.mono (by simp; omega))⟩
set_option maxHeartbeats 1600000 in
theorem eqCmdS_same (a a' : Option Addr) (c c' : Nat) (l : List Cd) (w : World) (hv : CdsAt w a l) (hv' : CdsAt w a' l) (hl : l.length ≤ 1048576) (hs : ∀ x ∈ l, x.slots.length ≤ 1048576) :
    Calls Tryz.prog 30 #[.slice a l.length c, .slice a' l.length c'] w fun e w' => e = .returned (.bool true) ∧ Below w.heap.size w w' := by
  go_enter Tryz.func30, Tryz.ntmps30
  go_wp2
  go_loopw [5] (fun i wr => ∃ (k : Nat), k ≤ l.length ∧ i = .int .i64 k ∧ Below w.heap.size w wr) (fun i _ => l.length - (intOf i).toNat)
  case atStart => exact ⟨0, by omega, rfl, Below.refl _ _⟩
  case round =>
    obtain ⟨k, hk, rfl, hb⟩ := hrel
    by_cases hkl : k < l.length
    · obtain ⟨x, hxk⟩ : ∃ x, l[k]? = some x := ⟨l[k], by simp [hkl]⟩
      obtain ⟨b, o, rfl, c0, c1, c2, s, cs, c3, hsl⟩ := hv.below hb k x hxk
      obtain ⟨b', o', rfl, d0, d1, d2, s', cs', d3, hsl'⟩ := hv'.below hb k x hxk
      have z0 : (0 : Int) ≤ (k : Int) := by omega
      have z1 : (k : Int) < (l.length : Int) := by omega
      have hsx := hs x (List.mem_of_getElem? hxk)
      have B1 : Below wr.heap.size wr wr.drew := (Below.refl _ _).drew
      have HE := hidX (eqCmd_same x s s' cs cs' _ (hsl.below B1) (hsl'.below B1) hsx)
      clear hsl hsl' hxk
      go_wp2
      go_region_held3 (fun w' => w'.cell? ⟨b, o + k * 4, none⟩ = some (.int .i64 x.kind) ∧ w'.cell? ⟨b, o + k * 4 + 1, none⟩ = some (.int .i64 x.n) ∧ w'.cell? ⟨b, o + k * 4 + 2, none⟩ = some (.string x.cls) ∧ w'.cell? ⟨b, o + k * 4 + 3, none⟩ = some (.slice s x.slots.length cs) ∧ w'.cell? ⟨b', o' + k * 4, none⟩ = some (.int .i64 x.kind) ∧ w'.cell? ⟨b', o' + k * 4 + 1, none⟩ = some (.int .i64 x.n) ∧ w'.cell? ⟨b', o' + k * 4 + 2, none⟩ = some (.string x.cls) ∧ w'.cell? ⟨b', o' + k * 4 + 3, none⟩ = some (.slice s' x.slots.length cs')) ((go_split_ands; refine ⟨?_, ?_, ?_, ?_, ?_, ?_, ?_, ?_⟩ <;> first | (simp [*]; done) | exact cell_below hb' (by assumption)))
        (first | (go_at_call 63; refine HE.out.mono ?_; rintro e w' ⟨rfl, hb'⟩))
      go_wp2
      go_roundw
      case rel => exact ⟨k + 1, by omega, by go_num, hb.drew.trans (hb'.mono hb.size)⟩
      case measure => simp [intOf]; omega
    · go_wp2
      go_ret
      exact ⟨rfl, hb⟩
set_option maxHeartbeats 800000 in
theorem eqCommands_same (code pos : Int) (a a' : Option Addr) (c c' : Nat) (l : List Cd) (w : World) (hv : CdsAt w a l) (hv' : CdsAt w a' l) (hl : l.length ≤ 1048576) (hs : ∀ x ∈ l, x.slots.length ≤ 1048576) :
    Calls Tryz.prog 15 #[.agg #[.int .i64 code, .int .i64 pos, .slice a l.length c], .agg #[.int .i64 code, .int .i64 pos, .slice a' l.length c']] w fun e w' => e = .returned (.bool true) ∧ Below w.heap.size w w' := by
  have B2 : ∀ o o', Below w.heap.size w ((w.alloc o).alloc o') := fun o o' => ((Below.refl _ _).alloc (Nat.le_refl _) _).alloc (by simp) _
  go_enter Tryz.func15, Tryz.ntmps15
  go_wp2_with (go_at_call 30; refine (eqCmdS_same a a' c c' l _ (hv.below (B2 _ _)) (hv'.below (B2 _ _)) hl hs).mono ?_; rintro e w' ⟨rfl, hb'⟩)
  go_ret
  exact ⟨rfl, (B2 _ _).trans (hb'.mono (by simp; omega))⟩
/-- What marks write into commands. -/
def mkC (k : Int) (x : Cd) : Cd := ⟨k, k + 1, mText (k + 2), mkVs (k + 3) x.slots.length⟩
def cEnd (k : Int) (x : Cd) : Int := k + 3 + 3 * (x.slots.length : Int)
def mkM : Int → List CdX → List CdX
  | _, [] => []
  | k, x :: r => (mkC k x.1, x.2) :: mkM (cEnd k x.1) r
def mEnd : Int → List CdX → Int
  | k, [] => k
  | k, x :: r => mEnd (cEnd k x.1) r
theorem mEnd_snoc (x : CdX) : ∀ (l : List CdX) (k : Int), mEnd k (l ++ [x]) = cEnd (mEnd k l) x.1
  | [], _ => rfl
  | y :: r, k => mEnd_snoc x r (cEnd k y.1)
theorem mkM_snoc (x : CdX) : ∀ (l : List CdX) (k : Int), mkM k (l ++ [x]) = mkM k l ++ [(mkC (mEnd k l) x.1, x.2)]
  | [], _ => rfl
  | y :: r, k => by
    show _ :: mkM (cEnd k y.1) (r ++ [x]) = _ :: (mkM (cEnd k y.1) r ++ [(mkC (mEnd (cEnd k y.1) r) x.1, x.2)])
    rw [mkM_snoc x r (cEnd k y.1)]
theorem mkM_len : ∀ (l : List CdX) (k : Int), (mkM k l).length = l.length
  | [], _ => rfl
  | y :: r, k => by
    show (mkM (cEnd k y.1) r).length + 1 = r.length + 1
    rw [mkM_len r (cEnd k y.1)]
theorem mEnd_ge : ∀ (l : List CdX) (k : Int), k ≤ mEnd k l
  | [], _ => Int.le_refl _
  | y :: r, k => by
    have := mEnd_ge r (cEnd k y.1)
    show k ≤ mEnd (cEnd k y.1) r
    unfold cEnd at this ⊢
    omega
theorem mEnd_append (m : List CdX) : ∀ (l : List CdX) (k : Int), mEnd k (l ++ m) = mEnd (mEnd k l) m
  | [], _ => rfl
  | y :: r, k => mEnd_append m r (cEnd k y.1)
theorem mkM_at {x : CdX} : ∀ {l : List CdX} {k : Int} {j : Nat}, l[j]? = some x → (mkM k l)[j]? = some (mkC (mEnd k (l.take j)) x.1, x.2)
  | [], _, _, h => by simp at h
  | y :: r, k, 0, h => by
    simp at h
    subst h
    rfl
  | y :: r, k, j + 1, h => by
    show (mkM (cEnd k y.1) r)[j]? = _
    rw [mkM_at (k := cEnd k y.1) (by simpa using h)]
    rfl
theorem mEnd_step {M : List CdX} {x : CdX} {k0 : Int} {j : Nat} (hj : M[j]? = some x) (hk : 0 < k0) (hk' : mEnd k0 M ≤ 100000000) : mEnd k0 (M.take (j + 1)) = mEnd k0 (M.take j) + 3 + 3 * (x.1.slots.length : Int) ∧ 0 < mEnd k0 (M.take j) ∧ mEnd k0 (M.take j) + 3 + 3 * (x.1.slots.length : Int) ≤ 100000000 := by
  have hKn : mEnd k0 (M.take (j + 1)) = mEnd k0 (M.take j) + 3 + 3 * (x.1.slots.length : Int) := by rw [take_succ' M j x hj, mEnd_snoc]; rfl
  refine ⟨hKn, by have := mEnd_ge (M.take j) k0; omega, ?_⟩
  rw [← hKn]
  have h1 := mEnd_append (M.drop (j + 1)) (M.take (j + 1)) k0
  rw [List.take_append_drop] at h1
  have h2 := mEnd_ge (M.drop (j + 1)) (mEnd k0 (M.take (j + 1)))
  omega
theorem mEnd_le {N : Nat} : ∀ (l : List CdX) (k : Int), (∀ x ∈ l, x.1.slots.length ≤ N) → mEnd k l ≤ k + l.length * (3 + 3 * N)
  | [], k, _ => by simp [mEnd]
  | y :: r, k, h => by
    have h1 := h y (by simp)
    have h2 := mEnd_le r (cEnd k y.1) (fun m hm => h m (by simp [hm]))
    simp only [mEnd, List.length_cons]
    have e : ((r.length + 1 : Nat) : Int) * (3 + 3 * (N : Int)) = r.length * (3 + 3 * (N : Int)) + (3 + 3 * (N : Int)) := by rw [Int.natCast_add, Int.add_mul]; simp
    unfold cEnd at h2
    unfold cEnd
    omega
end Go.Proofs.YtdhpoagjmiligaaGreatDoor

namespace Go.Proofs.YtdhpoagjmiligaaGreatDoor
open Go.RowKit
attribute [local go_sem ↓] Go.wp_at_zero Go.wp_at_succ

/-- A block of theirs. -/
def InC (v : Value) (M : List CdX) (g : Nat) : Prop := v.ownBlock = some g ∨ ∃ x ∈ M, x.2.ownBlock = some g
theorem own_types {w : World} {B : Nat} {v u : Value} {n m : Nat} {xs ys : List Value} (h : w.ownsRow B 67 4 v n xs) (h' : w.ownsRow B 101 3 u m ys) {g : Nat} (hg : v.ownBlock = some g) (hg' : u.ownBlock = some g) : False := by
  obtain ⟨c1, e1⟩ := own_type h hg
  obtain ⟨c2, e2⟩ := own_type h' hg'
  rw [e1] at e2
  injection e2 with e2
  injection e2 with _ e2 _
  exact absurd e2 (by decide)
theorem CO.marked {w w2 : World} {B : Nat} {a : Option Addr} {c : Nat} {X Y : List CdX} {x x' : Cd} {v : Value} (h : CO w B a c (X ++ (x, v) :: Y)) (hl : x'.slots.length = x.slots.length)
    (hr : w2.ownsRow B 67 4 (.slice a (X ++ (x, v) :: Y).length c) (X ++ (x, v) :: Y).length ((X ++ (x', v) :: Y).flatMap cdC)) (hx : w2.ownsRow B 101 3 v x'.slots.length (x'.slots.flatMap V.cells)) (hm : Mk (fun g => (Value.slice a (X ++ (x, v) :: Y).length c).ownBlock = some g ∨ v.ownBlock = some g) w w2) : CO w2 B a c (X ++ (x', v) :: Y) := by
  have hlen : (X ++ (x', v) :: Y).length = (X ++ (x, v) :: Y).length := by simp
  have hp := h.pair
  rw [List.pairwise_append] at hp
  have hother : ∀ y : CdX, y ∈ X ∨ y ∈ Y → CdP w2 B y := by
    intro y hy
    have hym : y ∈ X ++ (x, v) :: Y := by rcases hy with hy | hy <;> simp [hy]
    obtain ⟨la, lc, e1, e2⟩ := h.all y hym
    refine ⟨la, lc, e1, owns_of_block e2 fun g hg => hm.block g (e2.lt g hg).2 ?_⟩
    rintro (e | e)
    · exact own_types h.row e2 e hg
    · rcases hy with hy | hy
      · exact hp.2.2 y hy (x, v) (by simp) g hg e
      · exact (List.pairwise_cons.1 hp.2.1).1 y hy g e hg
  refine ⟨by rw [hlen]; exact hr, fun y hy => ?_, ?_⟩
  · rcases List.mem_append.1 hy with hy | hy
    · exact hother y (.inl hy)
    · rcases List.mem_cons.1 hy with rfl | hy
      · obtain ⟨la, lc, e1, _⟩ := h.all (x, v) (by simp)
        exact ⟨la, lc, by rw [show v = .slice la x.slots.length lc from e1, hl], hx⟩
      · exact hother y (.inr hy)
  · have h1 := (List.pairwise_map (f := Prod.snd) (R := Apart)).2 h.pair
    have h2 : (X ++ (x, v) :: Y).map Prod.snd = (X ++ (x', v) :: Y).map Prod.snd := by simp
    rw [h2] at h1
    exact List.pairwise_map.1 h1
theorem cdC_mid (X Y : List CdX) (x : Cd) (v : Value) : (X ++ (x, v) :: Y).flatMap cdC = X.flatMap cdC ++ ([.int .i64 x.kind, .int .i64 x.n, .string x.cls] ++ (v :: Y.flatMap cdC)) := by
  rw [List.flatMap_append, List.flatMap_cons]
  rfl
set_option maxRecDepth 100000 in
set_option maxHeartbeats 1600000 in
theorem markCmdS_any (a : Option Addr) (c : Nat) (M : List CdX) (B : Nat) (k0 : Int) (w : World) (ho : CO w B a c M) (hl : M.length ≤ 1048576) (hs : ∀ x ∈ M, x.1.slots.length ≤ 1048576) (hk : 0 < k0) (hk' : mEnd k0 M ≤ 100000000) :
    Calls Tryz.prog 31 #[.slice a M.length c, .int .i64 k0] w fun e w' =>
      e = .returned (.int .i64 (mEnd k0 M)) ∧ CO w' B a c (mkM k0 M) ∧ Mk (InC (.slice a M.length c) M) w w' := by
  go_enter Tryz.func31, Tryz.ntmps31
  go_wp2
  go_loopw [1, 5] (fun kv i wr => ∃ (j : Nat), j ≤ M.length ∧ i = .int .i64 j ∧ kv = .int .i64 (mEnd k0 (M.take j)) ∧ CO wr B a c (mkM k0 (M.take j) ++ M.drop j) ∧ Mk (InC (.slice a M.length c) M) w wr) (fun _ i _ => M.length - (intOf i).toNat)
  case atStart => exact ⟨0, by omega, rfl, rfl, by simpa [mkM] using ho, Mk.refl _ _⟩
  case round =>
    obtain ⟨j, hj, rfl, rfl, ho1, hm⟩ := hrel
    have HM := hidX hm
    clear hm ho
    by_cases hjl : j < M.length
    · obtain ⟨⟨x, v⟩, hxj⟩ : ∃ x, M[j]? = some x := ⟨M[j], by simp [hjl]⟩
      obtain ⟨hKn, hKpos, hKle⟩ := mEnd_step hxj hk hk'
      have hMn : mkM k0 (M.take (j + 1)) = mkM k0 (M.take j) ++ [(mkC (mEnd k0 (M.take j)) x, v)] := by rw [take_succ' M j _ hxj, mkM_snoc]
      have hd : M.drop j = (x, v) :: M.drop (j + 1) := drop_cons hxj
      have hAl : (mkM k0 (M.take j)).length = j := by rw [mkM_len, List.length_take]; omega
      obtain ⟨K, hK⟩ : ∃ K, K = mEnd k0 (M.take j) := ⟨_, rfl⟩
      rw [← hK] at hKn hKpos hKle hMn
      simp only at hKn hKle
      rw [hd] at ho1
      obtain ⟨la, lc, e', hox⟩ := ho1.all (x, v) (by simp)
      simp only at e' hox
      subst e'
      have hLl : (mkM k0 (M.take j) ++ (x, .slice la x.slots.length lc) :: M.drop (j + 1)).length = M.length := by simp [hAl]; omega
      have hrow := ho1.row
      rw [cdC_mid, hLl] at hrow
      have hfl : ((mkM k0 (M.take j)).flatMap cdC).length = j * 4 := by rw [cdC_len, hAl]
      obtain ⟨g, rfl, hbg, c0, f0⟩ := owns_cell (j := j * 4) (x := .int .i64 x.kind) hrow (by rw [List.getElem?_append_right (by omega), hfl]; simp)
      obtain ⟨_, he1, _, c1, f1⟩ := owns_cell (j := j * 4 + 1) (x := .int .i64 x.n) hrow (by rw [List.getElem?_append_right (by omega), hfl, show j * 4 + 1 - j * 4 = 1 by omega]; simp)
      obtain ⟨_, he2, _, c2, f2⟩ := owns_cell (j := j * 4 + 2) (x := .string x.cls) hrow (by rw [List.getElem?_append_right (by omega), hfl, show j * 4 + 2 - j * 4 = 2 by omega]; simp)
      obtain ⟨_, he3, _, c3, _⟩ := owns_cell (j := j * 4 + 3) (x := .slice la x.slots.length lc) hrow (by rw [List.getElem?_append_right (by omega), hfl, show j * 4 + 3 - j * 4 = 3 by omega]; simp)
      cases he1
      cases he2
      cases he3
      have hgl : g < wr.heap.size := World.block_lt_of_cell? wr ⟨g, _, none⟩ c0
      have hsf : x.slots.length ≤ 1048576 := hs (x, _) (List.mem_of_getElem? hxj)
      have hne : ∀ g', (Value.slice la x.slots.length lc).ownBlock = some g' → g' ≠ g := fun g' hg' e => own_types hrow hox rfl (by rw [hg', e])
      have hmem : ∀ g', (Value.slice (some ⟨g, 0, none⟩) M.length c).ownBlock = some g' ∨ (Value.slice la x.slots.length lc).ownBlock = some g' → InC (.slice (some ⟨g, 0, none⟩) M.length c) M g' := by
        rintro g' (h | h)
        · exact .inl h
        · exact .inr ⟨_, List.mem_of_getElem? hxj, h⟩
      have hw1 : IntKind.i64.wrap (K + 1) = K + 1 := by rw [IntKind.wrap_i64]; omega
      have hw2 : IntKind.i64.wrap (K + 1 + 1) = K + 2 := by rw [IntKind.wrap_i64]; omega
      have hw3 : IntKind.i64.wrap (K + 2 + 1) = K + 3 := by rw [IntKind.wrap_i64]; omega
      have HO := hidX ho1
      have HX := hidX hox
      have HR := hidX hrow
      have HKn := hidX hKn
      have HMn := hidX hMn
      have HLl := hidX hLl
      have HFL := hidX hfl
      have HME := hidX hmem
      clear ho1 hox hrow hKn hMn hd hLl hfl hAl hxj hmem
      rw [← hK]
      clear hK
      go_wp2_with (go_at_call 52; refine (markText_any (K + 2) _ (by omega) (by omega)).mono ?_; rintro e w1 ⟨rfl, hb1⟩; obtain ⟨hc1, hf1⟩ := bcell hb1)
      have hox2 : (w1.setCell ⟨g, j * 4 + 2, none⟩ (.string (mText (K + 2)))).ownsRow B 101 3 (.slice la x.slots.length lc) x.slots.length (x.slots.flatMap V.cells) :=
        owns_of_block HX.out (fun g' hg' => (Below.heap_setCell _ _ _ _ (hne g' hg')).trans ((hb1.block g' (by simpa using (HX.out.lt g' hg').2)).trans ((Below.heap_setCell _ _ _ _ (hne g' hg')).trans (Below.heap_setCell _ _ _ _ (hne g' hg')))))
      refine (markValueS_any la lc x.slots B (K + 3) _ hox2 hsf (by omega) (by omega)).mono ?_
      rintro e w2 ⟨rfl, ho2, hm2⟩
      have s1 := (((HR.out.stored (j * 4) (.int .i64 K)).1).stored (j * 4 + 1) (.int .i64 (K + 1))).1
      have s2 := owns_of_block s1 (w' := w1) (fun g' hg' => hb1.block g' (by cases hg'; simpa using hgl))
      have s3 := (s2.stored (j * 4 + 2) (.string (mText (K + 2)))).1
      have hz1 : wr.heap.size ≤ w1.heap.size := by have := hb1.size; simpa using this
      have s4 := owns_of_block s3 (w' := w2) (fun g' hg' => hm2.block g' (by cases hg'; simp; omega) (fun e => hne g' e (by cases hg'; rfl)))
      rw [set3' HFL.out] at s4
      have m0 := fun (u : World) (o : Nat) (y : Value) => Mk.set (S := fun g' => (Value.slice (some ⟨g, 0, none⟩) M.length c).ownBlock = some g' ∨ (Value.slice la x.slots.length lc).ownBlock = some g') (w := u) (p := ⟨g, o, none⟩) (.inl rfl) y
      have m2 := ((((m0 wr (j * 4) (.int .i64 K)).trans (m0 _ (j * 4 + 1) (.int .i64 (K + 1)))).trans (Mk.of_below hb1)).trans (m0 w1 (j * 4 + 2) (.string (mText (K + 2))))).trans (hm2.mono (fun _ h => .inr h))
      have hS := HO.out.marked (x' := mkC K x) (mkVs_len _ _) (by rw [HLl.out, cdC_mid]; exact s4) (by show w2.ownsRow _ _ _ _ (mkVs (K + 3) x.slots.length).length _; rw [mkVs_len]; exact ho2) (by rw [HLl.out]; exact m2)
      have m3 := HM.out.trans (m2.mono HME.out)
      have e5 : mkM k0 (M.take j) ++ (mkC K x, .slice la x.slots.length lc) :: M.drop (j + 1) = mkM k0 (M.take (j + 1)) ++ M.drop (j + 1) := by rw [HMn.out]; simp
      rw [e5] at hS
      have S5 := hidX hS
      clear m2 m0 e5 s4 s3 s2 s1 hm2 ho2 hS
      go_wp2_with fail
      go_roundw
      case rel => exact ⟨j + 1, by omega, by go_num, by rw [HKn.out], S5.out, m3⟩
      case measure => simp [intOf]; omega
    · go_wp2
      go_ret
      obtain rfl : j = M.length := by omega
      rw [List.drop_eq_nil_of_le (Nat.le_refl _), List.append_nil, List.take_of_length_le (Nat.le_refl _)] at ho1
      rw [List.take_of_length_le (Nat.le_refl _)]
      exact ⟨rfl, ho1, HM.out⟩
set_option maxRecDepth 100000 in
set_option maxHeartbeats 1600000 in
theorem heldCmdS_any (a : Option Addr) (c : Nat) (M : List CdX) (k0 : Int) (w : World) (hv : CdsAt w a ((mkM k0 M).map Prod.fst)) (hl : M.length ≤ 1048576) (hs : ∀ x ∈ M, x.1.slots.length ≤ 1048576) (hk : 0 < k0) (hk' : mEnd k0 M ≤ 100000000) :
    Calls Tryz.prog 32 #[.slice a M.length c, .int .i64 k0] w fun e w' => e = .returned (.int .i64 (mEnd k0 M)) ∧ Below w.heap.size w w' := by
  go_enter Tryz.func32, Tryz.ntmps32
  go_wp2
  go_loopw [1, 5] (fun kv i wr => ∃ (j : Nat), j ≤ M.length ∧ i = .int .i64 j ∧ kv = .int .i64 (mEnd k0 (M.take j)) ∧ Below w.heap.size w wr) (fun _ i _ => M.length - (intOf i).toNat)
  case atStart => exact ⟨0, by omega, rfl, rfl, Below.refl _ _⟩
  case round =>
    obtain ⟨j, hj, rfl, rfl, hb⟩ := hrel
    by_cases hjl : j < M.length
    · obtain ⟨x, hxj⟩ : ∃ x, M[j]? = some x := ⟨M[j], by simp [hjl]⟩
      obtain ⟨hKn, hKpos, hKle⟩ := mEnd_step hxj hk hk'
      have hat := mkM_at (k := k0) hxj
      obtain ⟨K, hK⟩ : ∃ K, K = mEnd k0 (M.take j) := ⟨_, rfl⟩
      rw [← hK] at hKn hKpos hKle hat
      obtain ⟨b, o, rfl, d0, d1, d2, s, cs, d3, hsl⟩ := hv.below hb j (mkC K x.1) (by rw [List.getElem?_map, hat]; rfl)
      have c0 : wr.cell? ⟨b, o + j * 4, none⟩ = some (.int .i64 K) := d0
      have c1 : wr.cell? ⟨b, o + j * 4 + 1, none⟩ = some (.int .i64 (K + 1)) := d1
      have c2 : wr.cell? ⟨b, o + j * 4 + 2, none⟩ = some (.string (mText (K + 2))) := d2
      have c3 : wr.cell? ⟨b, o + j * 4 + 3, none⟩ = some (.slice s x.1.slots.length cs) := by rw [d3]; simp [mkC, mkVs_len]
      have hsl2 : ValsAt wr s (mkVs (K + 3) x.1.slots.length) := hsl
      have hsf := hs x (List.mem_of_getElem? hxj)
      have hw1 : IntKind.i64.wrap (K + 1) = K + 1 := by rw [IntKind.wrap_i64]; omega
      have hw2 : IntKind.i64.wrap (K + 1 + 1) = K + 2 := by rw [IntKind.wrap_i64]; omega
      have hw3 : IntKind.i64.wrap (K + 2 + 1) = K + 3 := by rw [IntKind.wrap_i64]; omega
      have hnn : ¬ (K + 3 + 3 * (x.1.slots.length : Int) < 0) := by omega
      have HKn := hidX hKn
      rw [← hK]
      clear d0 d1 d2 d3 hsl hat hK hKn hxj
      go_wp2_with fail
      go_region_held3 (fun w' => w'.cell? ⟨b, o + j * 4 + 2, none⟩ = some (.string (mText (K + 2)))) ((first | with_reducible exact cell_below hb1 (by assumption) | exact c2))
        ((go_at_call 52; refine (markText_any (K + 2) _ (by omega) (by omega)).mono ?_; rintro e w1 ⟨rfl, hb1⟩))
      have hB1 : Below w.heap.size w w1 := hb.drew.trans (hb1.mono hb.size)
      have e3 : w1.cell? ⟨b, o + j * 4 + 3, none⟩ = some (.slice s x.1.slots.length cs) := cell_below hb1 c3
      have hsl3 : ValsAt w1 s (mkVs (K + 3) x.1.slots.length) := ValsAt.below (w := wr.drew) hsl2 hb1
      go_wp2_with (go_at_call 65; refine (heldValueS_any s cs x.1.slots.length (K + 3) w1 hsl3 hsf (by omega) (by omega)).mono ?_; rintro e w2 ⟨rfl, hb2⟩)
      go_roundw
      case rel => exact ⟨j + 1, by omega, by go_num, by rw [HKn.out], hB1.trans (hb2.mono hB1.size)⟩
      case measure => simp [intOf]; omega
    · go_wp2
      go_ret
      obtain rfl : j = M.length := by omega
      rw [List.take_of_length_le (Nat.le_refl _)]
      exact ⟨rfl, hb⟩
theorem CO.below {w w' : World} {B : Nat} {a : Option Addr} {c : Nat} {M : List CdX} (h : CO w B a c M) (hb : Below w.heap.size w w') : CO w' B a c M := ⟨own_bel h.row hb, fun x hx => by
  obtain ⟨la, lc, e1, e2⟩ := h.all x hx
  exact ⟨la, lc, e1, own_bel e2 hb⟩, h.pair⟩
set_option maxHeartbeats 800000 in
theorem markCommands_any (code pos : Int) (a : Option Addr) (c : Nat) (M : List CdX) (B : Nat) (k0 : Int) (w : World) (ho : CO w B a c M) (hl : M.length ≤ 1048576) (hs : ∀ x ∈ M, x.1.slots.length ≤ 1048576) (hk : 0 < k0) (hk' : mEnd k0 M ≤ 100000000) :
    Calls Tryz.prog 16 #[.agg #[.int .i64 code, .int .i64 pos, .slice a M.length c], .int .i64 k0] w fun e w' =>
      e = .returned (.int .i64 (mEnd k0 M)) ∧ CO w' B a c (mkM k0 M) ∧ Mk (InC (.slice a M.length c) M) w w' := by
  have B1 : ∀ o, Below w.heap.size w (w.alloc o) := fun o => (Below.refl _ _).alloc (Nat.le_refl _) _
  go_enter Tryz.func16, Tryz.ntmps16
  go_wp2_with (go_at_call 31; refine (markCmdS_any a c M B k0 _ (ho.below (B1 _)) hl hs hk hk').mono ?_; rintro e w1 ⟨rfl, ho1, hm1⟩)
  go_ret
  exact ⟨rfl, ho1, (Mk.of_below (B1 _)).trans hm1⟩
set_option maxHeartbeats 800000 in
theorem heldCommands_any (code pos : Int) (a : Option Addr) (c : Nat) (M : List CdX) (k0 : Int) (w : World) (hv : CdsAt w a ((mkM k0 M).map Prod.fst)) (hl : M.length ≤ 1048576) (hs : ∀ x ∈ M, x.1.slots.length ≤ 1048576) (hk : 0 < k0) (hk' : mEnd k0 M ≤ 100000000) :
    Calls Tryz.prog 17 #[.agg #[.int .i64 code, .int .i64 pos, .slice a M.length c], .int .i64 k0] w fun e w' => e = .returned (.int .i64 (mEnd k0 M)) ∧ Below w.heap.size w w' := by
  have B1 : ∀ o, Below w.heap.size w (w.alloc o) := fun o => (Below.refl _ _).alloc (Nat.le_refl _) _
  have hnn : ¬ mEnd k0 M < 0 := by have := mEnd_ge M k0; omega
  go_enter Tryz.func17, Tryz.ntmps17
  go_wp2_with (go_at_call 32; refine (heldCmdS_any a c M k0 _ (hv.below (B1 _)) hl hs hk hk').mono ?_; rintro e w1 ⟨rfl, hb1⟩)
  go_ret
  exact ⟨rfl, (B1 _).trans (hb1.mono (by simp))⟩
end Go.Proofs.YtdhpoagjmiligaaGreatDoor

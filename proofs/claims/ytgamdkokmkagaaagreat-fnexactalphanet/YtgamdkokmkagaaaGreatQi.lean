/-
  OUR OWN TEXT. An9, An10, one behind the other.
-/
import Derived.Test.YtgamdkokmkagaaaGreatAn8m
import Derived.Test.YtgamdkokmkagaaaGreatQj
import Derived.Deep.RegionHeld3
namespace Go.Proofs.YtgamdkokmkagaaaGreat
open Go.RowKit
attribute [local go_sem ↓] Go.wp_at_zero Go.wp_at_succ

def mkAX (k : Int) (x : AlX) : AlX := (⟨mText k, k + 1, mkTs (k + 2) x.1.tests.length⟩, x.2)
def aE (k : Int) (x : AlX) : Int := k + 2 + 6 * (x.1.tests.length : Int)
def mkAXs : Int → List AlX → List AlX
  | _, [] => []
  | k, x :: r => mkAX k x :: mkAXs (aE k x) r
def alE : Int → List AlX → Int
  | k, [] => k
  | k, x :: r => alE (aE k x) r
theorem alE_snoc (x : AlX) : ∀ (l : List AlX) (k : Int), alE k (l ++ [x]) = aE (alE k l) x
  | [], _ => rfl
  | _ :: r, _ => alE_snoc x r _
theorem mkAXs_snoc (x : AlX) : ∀ (l : List AlX) (k : Int), mkAXs k (l ++ [x]) = mkAXs k l ++ [mkAX (alE k l) x]
  | [], _ => rfl
  | y :: r, k => by
    simp only [List.cons_append, mkAXs, alE]
    rw [mkAXs_snoc x r]
theorem mkAXs_len : ∀ (l : List AlX) (k : Int), (mkAXs k l).length = l.length
  | [], _ => rfl
  | y :: r, k => by simp only [mkAXs, List.length_cons, mkAXs_len r]
theorem mkAXs_snd : ∀ (l : List AlX) (k : Int), (mkAXs k l).map Prod.snd = l.map Prod.snd
  | [], _ => rfl
  | y :: r, k => by simp only [mkAXs, List.map_cons, mkAXs_snd r, mkAX]
theorem alE_ge : ∀ (l : List AlX) (k : Int), k ≤ alE k l
  | [], _ => Int.le_refl _
  | y :: r, k => by
    have := alE_ge r (aE k y)
    unfold aE at this
    simp only [alE]
    unfold aE
    omega
theorem alE_append (m : List AlX) : ∀ (l : List AlX) (k : Int), alE k (l ++ m) = alE (alE k l) m
  | [], _ => rfl
  | _ :: r, _ => alE_append m r _
theorem mkAXs_at : ∀ (l : List AlX) (k : Int) (i : Nat) (x : AlX), l[i]? = some x → (mkAXs k l)[i]? = some (mkAX (alE k (l.take i)) x)
  | [], _, _, _, h => by simp at h
  | y :: r, k, 0, x, h => by
    simp at h
    subst h
    rfl
  | y :: r, k, i + 1, x, h => by
    simp only [mkAXs, List.getElem?_cons_succ, List.take_succ_cons, alE] at h ⊢
    exact mkAXs_at r _ i x h
theorem alE_le : ∀ (l : List AlX) (k : Int), (∀ x ∈ l, x.1.tests.length ≤ 6) → alE k l ≤ k + 38 * (l.length : Int)
  | [], _, _ => by simp [alE]
  | y :: r, k, h => by
    have h1 := alE_le r (aE k y) (fun x hx => h x (by simp [hx]))
    have h2 := h y (by simp)
    simp only [alE, List.length_cons]
    unfold aE at h1 ⊢
    omega
/-- A block of theirs. -/
def InAO (a : Option Addr) (c : Nat) (L : List AlX) (g : Nat) : Prop := (Value.slice a L.length c).ownBlock = some g ∨ ∃ x ∈ L, x.2.ownBlock = some g
theorem InAO.type {w : World} {base : Nat} {a : Option Addr} {c : Nat} {L : List AlX} {g : Nat} (h : InAO a c L g) (ho : AO w base a c L) : base ≤ g ∧ g < w.heap.size ∧ ((∃ d, w.heap[g]? = some (.cells d 54 (0, 0))) ∨ ∃ d, w.heap[g]? = some (.cells d 90 (0, 0))) := by
  rcases h with h | ⟨x, hx, h⟩
  · exact ⟨(ho.1.lt g h).1, (ho.1.lt g h).2, .inl (own_type ho.1 h)⟩
  · exact ⟨((ho.2 x hx).2.lt g h).1, ((ho.2 x hx).2.lt g h).2, .inr (own_type (ho.2 x hx).2 h)⟩
theorem OLL.mksA {w w' : World} {base base' : Nat} {a : Option Addr} {c : Nat} {L : List AlX} {v : Value} {n : Nat} {xss : List (List Int)} {vs : List Value} (h : OLL w base' v n xss vs) (ho : AO w base a c L) (hm : MkS (InAO a c L) w w') : OLL w' base' v n xss vs :=
  h.kept fun g hg => hm.block g (h.range hg).2 (fun hi => by
    rcases (hi.type ho).2.2 with ⟨d, hd⟩ | ⟨d, hd⟩
    · rcases h.inType hg with ⟨d', hd'⟩ | ⟨d', hd'⟩
      · exact own_far hd hd' (by decide)
      · exact own_far hd hd' (by decide)
    · rcases h.inType hg with ⟨d', hd'⟩ | ⟨d', hd'⟩
      · exact own_far hd hd' (by decide)
      · exact own_far hd hd' (by decide))
theorem AO.mksI {w w' : World} {base base' : Nat} {a : Option Addr} {c : Nat} {L : List AlX} {v : Value} {n : Nat} {xss : List (List Int)} {vs : List Value} (h : AO w base a c L) (ho : OLL w base' v n xss vs) (hm : MkS (InLL v vs) w w') : AO w' base a c L := by
  have key : ∀ {e : TypeId} {m : Nat} {u : Value} {k : Nat} {xs : List Value}, w.ownsRow base e m u k xs → e ≠ 48 → e ≠ 3 → w'.ownsRow base e m u k xs := fun hh h1 h2 => owns_of_block hh fun g hg => hm.block g (hh.lt g hg).2 (fun hi => by
    obtain ⟨d, hd⟩ := own_type hh hg
    rcases ho.inType hi with ⟨d', hd'⟩ | ⟨d', hd'⟩
    · exact own_far hd hd' h1
    · exact own_far hd hd' h2)
  exact ⟨key h.1 (by decide) (by decide), fun x hx => ⟨(h.2 x hx).1, key (h.2 x hx).2 (by decide) (by decide)⟩⟩
theorem alFlat_len (L : List AlX) : (L.flatMap alCells).length = L.length * 3 := by
  induction L with
  | nil => rfl
  | cons x r ih => simp [ih, alCells]; omega
theorem MkS.ofBelow {S : Nat → Prop} {u v : World} (h : Below u.heap.size u v) : MkS S u v := ⟨h.mono (Nat.zero_le _), fun g hg _ => h.block g hg⟩
theorem MkS.setIn {S : Nat → Prop} {w : World} {g o : Nat} (hg : S g) (x : Value) : MkS S w (w.setCell ⟨g, o, none⟩ x) := MkS.of_one (MkO.set (g := g) (o := o) x) (fun k e => by injection e with e; rw [← e]; exact hg)
set_option maxRecDepth 100000 in
set_option maxHeartbeats 3200000 in
theorem markAlphaS_own (a : Option Addr) (c : Nat) (L : List AlX) (base : Nat) (k0 : Int) (w : World) (ho : AO w base a c L) (hp : (L.map Prod.snd).Pairwise Apart) (hl : L.length ≤ 1048576) (hs : ∀ x ∈ L, x.1.tests.length ≤ 6) (hk : 0 < k0) (hk' : alE k0 L ≤ 100000000) :
    Calls Tryz.prog 28 #[.slice a L.length c, .int .i64 k0] w fun e w' =>
      e = .returned (.int .i64 (alE k0 L)) ∧ AO w' base a c (mkAXs k0 L) ∧ MkS (InAO a c L) w w' := by
  have HP := hidN1 hp
  have HO0 := hidN1 ho
  clear hp ho
  go_enter Tryz.func28, Tryz.ntmps28
  go_wp2_with fail
  go_loopw [1, 5] (fun kv i wr => ∃ (j : Nat), j ≤ L.length ∧ i = .int .i64 (j : Int) ∧ kv = .int .i64 (alE k0 (L.take j)) ∧ wr.ownsRow base 54 3 (.slice a L.length c) L.length ((mkAXs k0 (L.take j) ++ L.drop j).flatMap alCells) ∧ (∀ x ∈ mkAXs k0 (L.take j) ++ L.drop j, AlP wr base x) ∧ MkS (InAO a c L) w wr) (fun _ i _ => L.length - (intOf i).toNat)
  case atStart => exact ⟨0, by omega, rfl, rfl, by simpa [mkAXs] using HO0.out.1, by simpa [mkAXs] using HO0.out.2, MkS.refl _ _⟩
  case round =>
    obtain ⟨j, hj, rfl, rfl, hrow, hal, hm⟩ := hrel
    have HM := hidN1 hm
    clear hm
    by_cases hjl : j < L.length
    · obtain ⟨x, hxj⟩ : ∃ x, L[j]? = some x := ⟨L[j], by simp [hjl]⟩
      have hd : L.drop j = x :: L.drop (j + 1) := drop_cons hxj
      have hpl : (mkAXs k0 (L.take j)).length = j := by rw [mkAXs_len]; simp; omega
      rw [hd] at hrow hal
      obtain ⟨⟨xa, xc, hxs⟩, hxo⟩ := hal x (by simp)
      have hxe : x = (x.1, .slice xa x.1.tests.length xc) := by rw [← hxs]
      rw [hxs] at hxo
      have hfl : ((mkAXs k0 (L.take j)).flatMap alCells).length = j * 3 := by rw [alFlat_len, hpl]
      have hrow' : wr.ownsRow base 54 3 (.slice a L.length c) L.length ((mkAXs k0 (L.take j)).flatMap alCells ++ ([.string x.1.cls, .int .i64 x.1.arity, .slice xa x.1.tests.length xc] ++ (L.drop (j + 1)).flatMap alCells)) := by
        have h1 := hrow
        rw [List.flatMap_append, List.flatMap_cons] at h1
        have h2 : alCells x = [.string x.1.cls, .int .i64 x.1.arity, .slice xa x.1.tests.length xc] := by unfold alCells; rw [hxs]
        rw [h2] at h1
        exact h1
      obtain ⟨g, rfl, hbg, c0, f0⟩ := owns_cell (j := j * 3) (x := .string x.1.cls) hrow' (by rw [List.getElem?_append_right (by omega), hfl]; simp)
      obtain ⟨_, he1, _, c1, f1⟩ := owns_cell (j := j * 3 + 1) (x := .int .i64 x.1.arity) hrow' (by rw [List.getElem?_append_right (by omega), hfl, show j * 3 + 1 - j * 3 = 1 by omega]; simp)
      obtain ⟨_, he2, _, c2, _⟩ := owns_cell (j := j * 3 + 2) (x := .slice xa x.1.tests.length xc) hrow' (by rw [List.getElem?_append_right (by omega), hfl, show j * 3 + 2 - j * 3 = 2 by omega]; simp)
      cases he1
      cases he2
      have hgl : g < wr.heap.size := World.block_lt_of_cell? wr ⟨g, _, none⟩ c0
      have hsx := hs x (List.mem_of_getElem? hxj)
      obtain ⟨K, hK⟩ : ∃ K, K = alE k0 (L.take j) := ⟨_, rfl⟩
      have hKn : alE k0 (L.take (j + 1)) = K + 2 + 6 * (x.1.tests.length : Int) := by rw [take_succ' L j x hxj, alE_snoc, ← hK]; rfl
      have hMn : mkAXs k0 (L.take (j + 1)) = mkAXs k0 (L.take j) ++ [mkAX K x] := by rw [take_succ' L j x hxj, mkAXs_snoc, ← hK]
      have hKpos : 0 < K := by rw [hK]; have := alE_ge (L.take j) k0; omega
      have hKle : K + 2 + 6 * (x.1.tests.length : Int) ≤ 100000000 := by
        rw [← hKn]
        have h1 := alE_append (L.drop (j + 1)) (L.take (j + 1)) k0
        rw [List.take_append_drop] at h1
        have h2 := alE_ge (L.drop (j + 1)) (alE k0 (L.take (j + 1)))
        omega
      have hw1 : IntKind.i64.wrap (K + 1) = K + 1 := by rw [IntKind.wrap_i64]; omega
      have hw2 : IntKind.i64.wrap (K + 1 + 1) = K + 2 := by rw [IntKind.wrap_i64]; omega
      have hpar : (L.map Prod.snd) = (L.take j).map Prod.snd ++ x.2 :: (L.drop (j + 1)).map Prod.snd := by
        have h1 := List.take_append_drop j L
        rw [hd] at h1
        rw [← List.map_cons, ← List.map_append, h1]
      have hpw := HP.out
      rw [hpar] at hpw
      have hpw2 := List.pairwise_append.1 hpw
      have HAP := hidN1 (show ∀ y ∈ mkAXs k0 (L.take j) ++ L.drop (j + 1), ∀ g', y.2.ownBlock = some g' → x.2.ownBlock ≠ some g' from fun y hy g' hg' e => by
        rcases List.mem_append.1 hy with hy | hy
        · have hm : y.2 ∈ (L.take j).map Prod.snd := by rw [← mkAXs_snd _ k0]; exact List.mem_map.2 ⟨y, hy, rfl⟩
          exact hpw2.2.2 _ hm _ (by simp) g' hg' e
        · exact (List.pairwise_cons.1 hpw2.2.1).1 _ (List.mem_map.2 ⟨y, hy, rfl⟩) g' e hg')
      have HAL := hidN1 hal
      have HX := hidN1 hxo
      have HR := hidN1 hrow'
      have HKn := hidN1 hKn
      have HMn := hidN1 hMn
      have HFL := hidN1 hfl
      have HXS := hidN1 hxs
      have HXM := hidN1 (show InAO (some ⟨g, 0, none⟩) c L g from .inl rfl)
      have HXN := hidN1 (fun g' (hg' : (Value.slice xa x.1.tests.length xc).ownBlock = some g') => (show InAO (some ⟨g, 0, none⟩) c L g' from .inr ⟨x, List.mem_of_getElem? hxj, by rw [hxs]; exact hg'⟩))
      have hne : ∀ g', (Value.slice xa x.1.tests.length xc).ownBlock = some g' → g' ≠ g := fun g' hg' e => by
        obtain ⟨d, hd'⟩ := own_type hxo hg'
        obtain ⟨d2, hd2⟩ := own_type hrow' (show (Value.slice (some ⟨g, 0, none⟩) L.length c).ownBlock = some g from rfl)
        rw [e] at hd'
        exact own_far hd2 hd' (by decide)
      have HNE := hidN1 hne
      have HTY := hidN1 (own_type hrow' (show (Value.slice (some ⟨g, 0, none⟩) L.length c).ownBlock = some g from rfl))
      clear hal hxo hrow hrow' hKn hMn hfl hxs hd hpar hpw hpw2 hne hxe hpl hxj
      rw [← hK]
      clear hK
      go_wp2_with fail
      refine (markText_any K wr (by omega) (by omega)).mono ?_
      rintro e w1 ⟨rfl, hb1⟩
      have c0' := cell_below hb1 c0
      have c1' := cell_below hb1 c1
      have c2' := cell_below hb1 c2
      have f0' : w1.frozen? ⟨g, j * 3, none⟩ = false := (World.frozen?_of_block (w := wr) (hb1.block g hgl)).trans f0
      have f1' : w1.frozen? ⟨g, j * 3 + 1, none⟩ = false := (World.frozen?_of_block (w := wr) (hb1.block g hgl)).trans f1
      have HB1 := hidN1 hb1
      have hz1 := hb1.size
      clear hb1 c0 c1 c2 f0 f1
      go_wp2_with fail
      have hox2 : ((w1.setCell ⟨g, j * 3, none⟩ (.string (mText K))).setCell ⟨g, j * 3 + 1, none⟩ (.int .i64 (K + 1))).ownsRow base 90 6 (.slice xa x.1.tests.length xc) x.1.tests.length (x.1.tests.flatMap ttCells) :=
        owns_of_block (own_bel HX.out HB1.out) (fun g' hg' => (Below.heap_setCell _ _ _ _ (HNE.out g' hg')).trans (Below.heap_setCell _ _ _ _ (HNE.out g' hg')))
      refine (markAlphaTestS_any xa xc x.1.tests base (K + 2) _ hox2 (by omega) (by omega) (by omega)).mono ?_
      rintro e w2 ⟨rfl, ho2, hm2⟩
      have s2 := ((own_bel HR.out HB1.out).stored (j * 3) (.string (mText K))).1
      have s3 := (s2.stored (j * 3 + 1) (.int .i64 (K + 1))).1
      have s4 := owns_of_block s3 (w' := w2) (fun g' hg' => hm2.block g' (by cases hg'; simp; omega) (fun e => HNE.out g' e (by cases hg'; rfl)))
      have e4 : (((mkAXs k0 (L.take j)).flatMap alCells ++ ([Value.string x.1.cls, Value.int .i64 x.1.arity, Value.slice xa x.1.tests.length xc] ++ (L.drop (j + 1)).flatMap alCells)).set (j * 3) (.string (mText K))).set (j * 3 + 1) (.int .i64 (K + 1)) = (mkAXs k0 (L.take (j + 1)) ++ L.drop (j + 1)).flatMap alCells := by
        rw [HMn.out, ← HFL.out]
        simp [mkAX, alCells, HXS.out]
      rw [e4] at s4
      have m3 := HM.out.trans (((MkS.ofBelow HB1.out).trans ((MkS.setIn HXM.out _).trans (MkS.setIn HXM.out _))).trans (MkS.of_one hm2 (fun g' hg' => HXN.out g' hg')))
      have hS : ∀ y ∈ mkAXs k0 (L.take (j + 1)) ++ L.drop (j + 1), AlP w2 base y := by
        intro y hy
        rw [HMn.out, List.append_assoc] at hy
        by_cases hyx : y = mkAX K x
        · rw [hyx]
          refine ⟨⟨xa, xc, by show x.2 = _; rw [HXS.out]; simp [mkAX, mkTs_len]⟩, ?_⟩
          show w2.ownsRow base _ 6 x.2 (mkTs (K + 2) x.1.tests.length).length ((mkTs (K + 2) x.1.tests.length).flatMap ttCells)
          rw [HXS.out, mkTs_len]
          exact ho2
        · have hy' : y ∈ mkAXs k0 (L.take j) ++ L.drop (j + 1) := by
            rcases List.mem_append.1 hy with hy | hy
            · simp [hy]
            · rcases List.mem_append.1 hy with hy | hy
              · simp at hy
                exact absurd hy hyx
              · simp [hy]
          have hy2 : y ∈ mkAXs k0 (L.take j) ++ x :: L.drop (j + 1) := by
            rcases List.mem_append.1 hy' with h | h <;> simp [h]
          obtain ⟨h1, h2⟩ := HAL.out y hy2
          refine ⟨h1, owns_of_block h2 (fun g' hg' => ?_)⟩
          have hgg : g' ≠ g := fun e => by
            obtain ⟨d, hd'⟩ := own_type h2 hg'
            obtain ⟨d2, hd2⟩ := HTY.out
            rw [e] at hd'
            exact own_far hd2 hd' (by decide)
          have hlt := (h2.lt g' hg').2
          rw [hm2.block g' (by simp; omega) (fun e => HAP.out y hy' g' hg' (by rw [HXS.out]; exact e)), Below.heap_setCell _ _ _ _ hgg, Below.heap_setCell _ _ _ _ hgg, HB1.out.block g' hlt]
      have HS := hidN1 hS
      have S4 := hidN1 s4
      clear e4 s4 s3 s2 hm2 ho2 hox2 hS
      go_wp2_with fail
      go_roundw
      case rel => exact ⟨j + 1, by omega, by go_num, by rw [HKn.out], S4.out, HS.out, m3⟩
      case measure => (simp [intOf]; omega)
    · go_wp2_with fail
      go_ret
      obtain rfl : j = L.length := by omega
      rw [List.drop_eq_nil_of_le (Nat.le_refl _), List.append_nil, List.take_of_length_le (Nat.le_refl _)] at hrow hal
      rw [List.take_of_length_le (Nat.le_refl _)]
      exact ⟨rfl, ⟨by rw [mkAXs_len]; exact hrow, hal⟩, HM.out⟩
end Go.Proofs.YtgamdkokmkagaaaGreat

namespace Go.Proofs.YtgamdkokmkagaaaGreat
open Go.RowKit
attribute [local go_sem ↓] Go.wp_at_zero Go.wp_at_succ

set_option maxHeartbeats 1600000 in
theorem heldAlphaS_any (a : Option Addr) (c : Nat) (L : List AlX) (k0 : Int) (w : World) {q : Option Nat} (hv : AlsAt q w a ((mkAXs k0 L).map Prod.fst)) (hl : L.length ≤ 1048576) (hs : ∀ x ∈ L, x.1.tests.length ≤ 6) (hk : 0 < k0) (hk' : alE k0 L ≤ 100000000) :
    Calls Tryz.prog 30 #[.slice a L.length c, .int .i64 k0] w fun e w' => e = .returned (.int .i64 (alE k0 L)) ∧ Below w.heap.size w w' := by
  go_enter Tryz.func30, Tryz.ntmps30
  go_wp2_with fail
  go_loopw [1, 5] (fun kv i wr => ∃ (j : Nat), j ≤ L.length ∧ i = .int .i64 (j : Int) ∧ kv = .int .i64 (alE k0 (L.take j)) ∧ Below w.heap.size w wr) (fun _ i _ => L.length - (intOf i).toNat)
  case atStart => exact ⟨0, by omega, rfl, rfl, Below.refl _ _⟩
  case round =>
    obtain ⟨j, hj, rfl, rfl, hb⟩ := hrel
    by_cases hjl : j < L.length
    · obtain ⟨x, hxj⟩ : ∃ x, L[j]? = some x := ⟨L[j], by simp [hjl]⟩
      obtain ⟨K, hK⟩ : ∃ K, K = alE k0 (L.take j) := ⟨_, rfl⟩
      have hat : ((mkAXs k0 L).map Prod.fst)[j]? = some (⟨mText K, K + 1, mkTs (K + 2) x.1.tests.length⟩ : Al) := by rw [List.getElem?_map, mkAXs_at L k0 j x hxj, hK]; rfl
      obtain ⟨b, o, a_t, c_t, ea, _, d0, d1, d2, h_t⟩ := (hv.below hb).get hat
      subst ea
      have c0 : wr.cell? ⟨b, o + j * 3, none⟩ = some (.string (mText K)) := d0
      have c1 : wr.cell? ⟨b, o + j * 3 + 1, none⟩ = some (.int .i64 (K + 1)) := d1
      have c2 : wr.cell? ⟨b, o + j * 3 + 2, none⟩ = some (.slice a_t x.1.tests.length c_t) := by have := d2; simp only [mkTs_len] at this; exact this
      have HTT := hidN1 (show TtsAt q wr a_t (mkTs (K + 2) x.1.tests.length) from h_t)
      have hKn : alE k0 (L.take (j + 1)) = K + 2 + 6 * (x.1.tests.length : Int) := by rw [take_succ' L j x hxj, alE_snoc, ← hK]; rfl
      have hKpos : 0 < K := by rw [hK]; have := alE_ge (L.take j) k0; omega
      have hKle : K + 2 + 6 * (x.1.tests.length : Int) ≤ 100000000 := by
        rw [← hKn]
        have h1 := alE_append (L.drop (j + 1)) (L.take (j + 1)) k0
        rw [List.take_append_drop] at h1
        have h2 := alE_ge (L.drop (j + 1)) (alE k0 (L.take (j + 1)))
        omega
      have hw1 : IntKind.i64.wrap (K + 1) = K + 1 := by rw [IntKind.wrap_i64]; omega
      have hw2 : IntKind.i64.wrap (K + 1 + 1) = K + 2 := by rw [IntKind.wrap_i64]; omega
      have hsx := hs x (List.mem_of_getElem? hxj)
      have HKn := hidN1 hKn
      have hpos : ¬ K + 2 + 6 * (x.1.tests.length : Int) < 0 := by omega
      have z0 : (0 : Int) ≤ (j : Int) := by omega
      have z1 : (j : Int) < (L.length : Int) := by omega
      rw [← hK]
      clear d0 d1 d2 h_t hat hKn hK hxj
      go_wp2_with fail
      go_region_held3 (fun w' => w'.cell? ⟨b, o + j * 3, none⟩ = some (.string (mText K))) ((first | with_reducible exact cell_below hb1 (by assumption) | exact c0))
        ((go_at_call 24; refine (markText_any K _ (by omega) (by omega)).mono ?_; rintro e w1 ⟨rfl, hb1⟩))
      have hbw : Below wr.heap.size wr w1 := (Below.refl _ _).drew.trans hb1
      have c1' := cell_below hbw c1
      have c2' := cell_below hbw c2
      have TT1 := hidN1 (HTT.out.below hbw)
      have HBW := hidN1 hbw
      clear c0 c1 c2 HTT hb1 hbw
      go_wp2_with fail
      refine (heldAlphaTestS_any a_t c_t x.1.tests.length (K + 2) w1 TT1.out (by omega) (by omega) (by omega)).mono ?_
      rintro e w2 ⟨rfl, hb2⟩
      go_wp2_with fail
      go_roundw
      case rel => exact ⟨j + 1, by omega, by go_num, by rw [HKn.out], (hb.trans (HBW.out.mono hb.size)).trans (hb2.mono (Nat.le_trans hb.size HBW.out.size))⟩
      case measure => (simp [intOf]; omega)
    · go_wp2_with fail
      go_ret
      obtain rfl : j = L.length := by omega
      rw [List.take_of_length_le (Nat.le_refl _)]
      exact ⟨rfl, hb⟩
set_option maxHeartbeats 1600000 in
theorem markNet_own (aa oa : Option Addr) (ac oc : Nat) (L : List AlX) (xss : List (List Int)) (vs : List Value) (base : Nat) (w : World) (hA : AO w base aa ac L) (hp : (L.map Prod.snd).Pairwise Apart) (hO : OLL w base (.slice oa xss.length oc) xss.length xss vs) (hl : L.length ≤ 1048576) (hs : ∀ x ∈ L, x.1.tests.length ≤ 6) (hl2 : xss.length ≤ 1048576) (hs2 : ∀ xs ∈ xss, xs.length ≤ 1048576) (hb1 : alE 1 L ≤ 100000000) (hb2 : iEnd (alE 1 L) xss ≤ 100000000) (hbase : base ≤ w.heap.size) :
    Calls Tryz.prog 11 #[.agg #[.slice aa L.length ac, .slice oa xss.length oc], .int .i64 1] w fun e w' =>
      e = .returned (.int .i64 (iEnd (alE 1 L) xss)) ∧ (AO w' base aa ac (mkAXs 1 L) ∧ OLL w' base (.slice oa xss.length oc) xss.length (mkIss (alE 1 L) xss) vs) ∧ Below base w w' ∧ ∀ b v0 v1, NB w b v0 v1 → NB w' b v0 v1 := by
  have HA := hidN1 hA
  have HO := hidN1 hO
  have HP := hidN1 hp
  have hge := alE_ge L 1
  clear hA hO hp
  go_enter Tryz.func11, Tryz.ntmps11
  go_upto_region 1 with fail
  refine lift_alloc ?_
  intro w1 hW1 hq1
  have A1 := hidN1 (HA.out.bel hW1)
  have O1 := hidN1 (HO.out.below hW1)
  have N1 := hidN1 (show NB w1 w.heap.size (.slice aa L.length ac) (.slice oa xss.length oc) from hq1)
  have HB1 := hidN1 (hW1.mono hbase)
  have NN1 := hidN1 (fun b v0 v1 (h : NB w b v0 v1) => h.bel hW1)
  have hs1 := hW1.size
  obtain ⟨⟨n0, n1⟩, _, hnl⟩ := N1.out.facts
  clear hW1 hq1 HA HO
  go_wp2_with fail
  refine (markAlphaS_own aa ac L base 1 w1 A1.out HP.out hl hs (by omega) hb1).mono ?_
  rintro e w2 ⟨rfl, hA2, hm2⟩
  have A2 := hidN1 hA2
  have O2 := hidN1 (O1.out.mksA A1.out hm2)
  have N2 := hidN1 (show NB w2 w.heap.size (.slice aa L.length ac) (.slice oa xss.length oc) from (hm2.block w.heap.size hnl (fun hi => by
    rcases (hi.type A1.out).2.2 with ⟨d, hd⟩ | ⟨d, hd⟩
    · exact own_far N1.out hd (by decide)
    · exact own_far N1.out hd (by decide))).trans N1.out)
  have NN2 := hidN1 (fun b v0 v1 (h : NB w b v0 v1) => show NB w2 b v0 v1 from (hm2.block b (lt_of_block' (NN1.out b v0 v1 h)) (fun hi => by
    rcases (hi.type A1.out).2.2 with ⟨d, hd⟩ | ⟨d, hd⟩
    · exact own_far (NN1.out b v0 v1 h) hd (by decide)
    · exact own_far (NN1.out b v0 v1 h) hd (by decide))).trans (NN1.out b v0 v1 h))
  have HB2 := hidN1 (HB1.out.trans (hm2.below (by omega) (fun g hg => (hg.type A1.out).1)))
  have hs2' := hm2.rest.size
  obtain ⟨⟨n0', n1'⟩, _, _⟩ := N2.out.facts
  clear hA2 hm2 n0 n1 A1 O1 N1 HB1
  go_wp2_with fail
  refine (markIntSS_own oa oc xss vs base (alE 1 L) w2 O2.out hl2 hs2 (by omega) hb2).mono ?_
  rintro e w3 ⟨rfl, hO3, hm3⟩
  have HR := hidN1 (show (AO w3 base aa ac (mkAXs 1 L) ∧ OLL w3 base (.slice oa xss.length oc) xss.length (mkIss (alE 1 L) xss) vs) ∧ Below base w w3 ∧ ∀ b v0 v1, NB w b v0 v1 → NB w3 b v0 v1 from ⟨⟨A2.out.mksI O2.out hm3, hO3⟩, HB2.out.trans (hm3.below (by omega) (fun g hg => (O2.out.range hg).1)), fun b v0 v1 h => (hm3.block b (lt_of_block' (NN2.out b v0 v1 h)) (fun hi => by
    rcases O2.out.inType hi with ⟨d, hd⟩ | ⟨d, hd⟩
    · exact own_far (NN2.out b v0 v1 h) hd (by decide)
    · exact own_far (NN2.out b v0 v1 h) hd (by decide))).trans (NN2.out b v0 v1 h)⟩)
  clear hO3 hm3
  go_wp2_with fail
  go_ret
  exact ⟨rfl, HR.out⟩
set_option maxHeartbeats 1600000 in
theorem heldNet_any (aa oa : Option Addr) (ac oc : Nat) (L : List AlX) (xss : List (List Int)) (w : World) {q q' : Option Nat} (hA : AlsAt q w aa ((mkAXs 1 L).map Prod.fst)) (hO : IlsAt q' w oa (mkIss (alE 1 L) xss)) (hl : L.length ≤ 1048576) (hs : ∀ x ∈ L, x.1.tests.length ≤ 6) (hl2 : xss.length ≤ 1048576) (hs2 : ∀ xs ∈ xss, xs.length ≤ 1048576) (hb1 : alE 1 L ≤ 100000000) (hb2 : iEnd (alE 1 L) xss ≤ 100000000) :
    Calls Tryz.prog 12 #[.agg #[.slice aa L.length ac, .slice oa xss.length oc], .int .i64 1] w fun e w' => e = .returned (.int .i64 (iEnd (alE 1 L) xss)) ∧ Below w.heap.size w w' := by
  have HA := hidN1 hA
  have HO := hidN1 hO
  have hge := alE_ge L 1
  have hge2 := iEnd_ge xss (alE 1 L)
  have hp1 : ¬ alE 1 L < 0 := by omega
  have hp2 : ¬ iEnd (alE 1 L) xss < 0 := by omega
  clear hA hO
  go_enter Tryz.func12, Tryz.ntmps12
  go_upto_region 1 with fail
  refine lift_alloc ?_
  intro w1 hW1 hq1
  have N1 := hidN1 (show NB w1 w.heap.size (.slice aa L.length ac) (.slice oa xss.length oc) from hq1)
  have HB1 := hidN1 hW1
  obtain ⟨⟨n0, n1⟩, _, _⟩ := N1.out.facts
  clear hW1 hq1
  go_wp2_with fail
  refine (heldAlphaS_any aa ac L 1 w1 (HA.out.below HB1.out) hl hs (by omega) hb1).mono ?_
  rintro e w2 ⟨rfl, hb2'⟩
  have HB2 := hidN1 (HB1.out.trans (hb2'.mono HB1.out.size))
  obtain ⟨⟨n0', n1'⟩, _, _⟩ := (N1.out.bel hb2').facts
  clear n0 n1 hb2'
  go_wp2_with fail
  refine (heldIntSS_any oa oc xss (alE 1 L) w2 (HO.out.below HB2.out) hl2 hs2 (by omega) hb2).mono ?_
  rintro e w3 ⟨rfl, hb3⟩
  have HB3 := hidN1 (HB2.out.trans (hb3.mono HB2.out.size))
  clear hb3
  go_wp2_with fail
  go_ret
  exact ⟨rfl, HB3.out⟩
end Go.Proofs.YtgamdkokmkagaaaGreat

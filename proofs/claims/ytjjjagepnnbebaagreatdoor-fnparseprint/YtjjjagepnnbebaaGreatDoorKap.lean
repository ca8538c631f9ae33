/-
  OUR OWN TEXT. Og, Dwz, Sm1, Sm2, Rro, one behind the other.
-/
import Derived.Test.YtjjjagepnnbebaaGreatDoorAppm
import Derived.Test.YtjjjagepnnbebaaGreatDoorKan
import Derived.Test.YtjjjagepnnbebaaGreatDoorRd0m
import Derived.Test.YtjjjagepnnbebaaGreatDoorKam
import Derived.Test.YtjjjagepnnbebaaGreatDoorKal
import Derived.Laws.StructEq
import Derived.Deep.RegionHeld3
import Derived.Deep.DrawnRows
import Derived.Deep.DeepCutAuto
namespace Go.Proofs.YtjjjagepnnbebaaGreatDoor
open Go.RowKit

theorem news_new (w : World) (L : List Value) (t : TypeId) (b : Nat) (hb : b = w.heap.size) (ad : Addr) (e : some (⟨b, 0, none⟩ : Addr) = some ad) (j : Nat) (u : Value) (h : L[j]? = some u) : (w.alloc (.cells L.toArray t)).cell? (ad.add j) = some u := by
  subst hb
  cases e
  rw [Addr.add_mid, Nat.zero_add]
  have hb := heap_alloc_new w (.cells L.toArray t)
  simp only [World.cell?, hb]
  simpa using h
theorem own_type {w : World} {base : Nat} {e : TypeId} {m : Nat} {v : Value} {n : Nat} {xs : List Value} (h : w.ownsRow base e m v n xs) {k : Nat} (hk : v.ownBlock = some k) : ∃ c, w.heap[k]? = some (.cells c e (0, 0)) := by
  rcases h.2 with ⟨rfl, _⟩ | ⟨g, cap, cur, rfl, _, h3, _⟩
  · simp [Value.ownBlock] at hk
  · simp [Value.ownBlock] at hk
    subst hk
    exact ⟨cur, h3⟩
/-- Rows of two types lie in two blocks. -/
theorem own_far {w : World} {k : Nat} {c c' : Array Value} {t t' : TypeId} {f f' : Nat × Nat} (h : w.heap[k]? = some (.cells c t f)) (h' : w.heap[k]? = some (.cells c' t' f')) (hne : t ≠ t') : False := by
  rw [h] at h'
  simp at h'
  exact hne h'.2.1
theorem lift_alloc {P : World → Prop} {w1 : World} {o : Obj} (h : ∀ wt, Below w1.heap.size w1 wt → wt.heap[w1.heap.size]? = some o → P wt) : P (w1.alloc o) := h _ ((Below.refl _ _).alloc (Nat.le_refl _) _) (heap_alloc_new _ _)
theorem own_bel {w w' : World} {base : Nat} {e : TypeId} {m : Nat} {v : Value} {n : Nat} {xs : List Value} (h : w.ownsRow base e m v n xs) (hb : Below w.heap.size w w') : w'.ownsRow base e m v n xs :=
  owns_of_block h fun k hk => hb.block k (h.lt k hk).2
theorem own_grown {w w' : World} {base : Nat} {e t : TypeId} {m : Nat} {v : Value} {n : Nat} {xs : List Value} {row : Option Nat} (h : w.ownsRow base e m v n xs) (hg : w.grownBy w' row) (ht : ∀ k, row = some k → ∃ c, w.heap[k]? = some (.cells c t (0, 0))) (hne : t ≠ e) : w'.ownsRow base e m v n xs :=
  owns_of_block h fun k hk => hg.block k (h.lt k hk).2 (fun e => by
    obtain ⟨c, hc⟩ := ht k e.symm
    obtain ⟨c', hc'⟩ := own_type h hk
    exact own_far hc hc' hne)
theorem own_set {w : World} {base b o : Nat} {e t : TypeId} {m : Nat} {v : Value} {n : Nat} {xs : List Value} {x : Value} {c : Array Value} {fr : Nat × Nat} (h : w.ownsRow base e m v n xs) (hb : w.heap[b]? = some (.cells c t fr)) (hne : t ≠ e) : (w.setCell ⟨b, o, none⟩ x).ownsRow base e m v n xs :=
  owns_of_block h fun k hk => Below.heap_setCell _ _ _ _ (fun e => by
    obtain ⟨c', hc'⟩ := own_type h hk
    have e' : k = b := e
    subst e'
    exact own_far hb hc' hne)
theorem box_grown {w w' : World} {b : Nat} {t t' : TypeId} {c : Array Value} {fr : Nat × Nat} {row : Option Nat} (h : w.heap[b]? = some (.cells c t fr)) (hg : w.grownBy w' row) (ht : ∀ k, row = some k → ∃ c, w.heap[k]? = some (.cells c t' (0, 0))) (hne : t' ≠ t) : w'.heap[b]? = some (.cells c t fr) :=
  (hg.block b (lt_of_block' h) (fun e => by
    obtain ⟨c', hc⟩ := ht b e.symm
    exact own_far hc h hne)).trans h
theorem flat_gen {α : Type} {cells : α → List Value} {m : Nat} (hc : ∀ x, (cells x).length = m) : ∀ (xs : List α) (i : Nat) (x : α) (j : Nat) (u : Value), xs[i]? = some x → (cells x)[j]? = some u → (xs.flatMap cells)[i * m + j]? = some u
  | [], i, x, j, u, h, _ => by simp at h
  | y :: r, 0, x, j, u, h, hj => by
    simp at h
    subst h
    have hl : j < (cells y).length := (List.getElem?_eq_some_iff.1 hj).1
    rw [List.flatMap_cons, Nat.zero_mul, Nat.zero_add, List.getElem?_append_left hl]
    exact hj
  | y :: r, i + 1, x, j, u, h, hj => by
    rw [List.getElem?_cons_succ] at h
    have := flat_gen hc r i x j u h hj
    have e : (i + 1) * m = i * m + m := Nat.succ_mul i m
    rw [List.flatMap_cons, List.getElem?_append_right (by rw [hc]; omega), show (i + 1) * m + j - (cells y).length = i * m + j by rw [hc]; omega]
    exact this
end Go.Proofs.YtjjjagepnnbebaaGreatDoor

namespace Go.Proofs.YtjjjagepnnbebaaGreatDoor
open Go.RowKit

theorem wf_rangeA {n : Int} (h1 : -9223372036854775808 ≤ n) (h2 : n ≤ 9223372036854775807) : (Lit.int .i64 n).wf = true := by
  simp [Lit.wf, IntKind.min, IntKind.max, IntKind.signed, IntKind.bits]
  omega
theorem bytes_emptyA {s : ByteArray} (h : s.toList.isEmpty = true) : s = ⟨#[]⟩ := by
  have h1 : (s.toList == (⟨#[]⟩ : ByteArray).toList) = true := by
    have : s.toList = [] := by simpa using h
    rw [this, show (⟨#[]⟩ : ByteArray).toList = [] by decide +kernel]
    rfl
  rw [bytes_beq] at h1
  simpa using h1
theorem own_capA {w : World} {base : Nat} {e : TypeId} {m : Nat} {a : Option Addr} {n c : Nat} {xs : List Value} (h : w.ownsRow base e m (.slice a n c) n xs) : n ≤ c := by
  rcases h.2 with ⟨_, h1⟩ | ⟨g, cap, cur, hv, _, _, hn, _⟩
  · omega
  · cases hv
    exact hn
end Go.Proofs.YtjjjagepnnbebaaGreatDoor

namespace Go.Proofs.YtjjjagepnnbebaaGreatDoor
open Go.RowKit
attribute [local go_sem ↓] Go.wp_at_zero Go.wp_at_succ

theorem hidS {p : Prop} (h : p) : Hid p := h
theorem cellS {w : World} {b : Nat} {L : List Value} {t : TypeId} (h : w.heap[b]? = some (.cells L.toArray t (0, 0))) {j : Nat} {v : Value} (hv : L[j]? = some v) : w.cell? ⟨b, j, none⟩ = some v := by
  simp [World.cell?, h, hv]
theorem lift_two {P : World → Prop} {w : World} {o1 o2 : Obj} (h : ∀ wt, Below w.heap.size w wt → wt.heap[w.heap.size]? = some o1 → wt.heap[w.heap.size + 1]? = some o2 → P wt) : P ((w.alloc o1).alloc o2) := by
  have h1 : (w.alloc o1).heap.size = w.heap.size + 1 := by simp
  refine h _ (((Below.refl _ _).alloc (Nat.le_refl _) _).alloc (by omega) _) ?_ ?_
  · rw [Below.heap_alloc _ _ _ (by omega)]
    exact heap_alloc_new _ _
  · rw [← h1]
    exact heap_alloc_new _ _
set_option maxHeartbeats 800000 in
theorem sameTags_sameq (xs : List Int) (a b : Option Addr) (ca cb : Nat) (w : World) (hx : IntsAt none w a xs) (hy : IntsAt none w b xs) (hl : xs.length ≤ 1048576) : Calls Tryz.prog 50 #[.slice a xs.length ca, .slice b xs.length cb] w fun e w' => e = .returned (.bool true) ∧ Below w.heap.size w w' := by
  have HX := hidS hx
  have HY := hidS hy
  clear hx hy
  go_enter Tryz.func50, Tryz.ntmps50
  go_wp2_with fail
  go_loopw [13] (fun iv wr => ∃ i : Nat, iv = .int .i64 (i : Int) ∧ i ≤ xs.length ∧ Below w.heap.size w wr) (fun iv _ => ((xs.length : Int) - intOf iv).toNat)
  case atStart => exact ⟨0, rfl, by omega, Below.refl _ _⟩
  case round =>
    obtain ⟨i, rfl, hil, hb⟩ := hrel
    have HB := hidS hb
    clear hb
    by_cases hi : i < xs.length
    · have hiI : (i : Int) < (xs.length : Int) := by omega
      have hi0 : (0 : Int) ≤ (i : Int) := by omega
      obtain ⟨x, hx⟩ : ∃ x, xs[i]? = some x := ⟨xs[i], by simp [hi]⟩
      obtain ⟨xb, xo, rfl, _, c0⟩ := (HX.out.below HB.out).get hx
      obtain ⟨yb, yo, rfl, _, c1⟩ := (HY.out.below HB.out).get hx
      clear hx
      go_wp2_with fail
      go_region
      go_wp2_with fail
      go_roundw
      case rel => exact ⟨i + 1, by go_num, by omega, HB.out.drew⟩
      case measure => simp [intOf]; omega
    · have hiI : ¬ (i : Int) < (xs.length : Int) := by omega
      go_wp2_with fail
      go_ret
      exact ⟨rfl, HB.out⟩

set_option maxHeartbeats 1600000 in
theorem sameTerm_sameq (x : Tm) (w : World) :
    Calls Tryz.prog 49 #[.agg #[.int .i64 x.kind, .int .i64 x.op, .string x.var, .int .i64 x.val.kind, .int .i64 x.val.num, .string x.val.sym], .agg #[.int .i64 x.kind, .int .i64 x.op, .string x.var, .int .i64 x.val.kind, .int .i64 x.val.num, .string x.val.sym]] w fun e w' =>
      e = .returned (.bool true) ∧ Below w.heap.size w w' := by
  have B0 : ∀ o o', Below w.heap.size w ((w.alloc o).alloc o') := fun o o' => ((Below.refl _ _).alloc (Nat.le_refl _) _).alloc (by simp) _
  go_enter Tryz.func49, Tryz.ntmps49
  go_wp2_with fail
  go_ret
  exact ⟨rfl, B0 _ _⟩
end Go.Proofs.YtjjjagepnnbebaaGreatDoor

namespace Go.Proofs.YtjjjagepnnbebaaGreatDoor
open Go.RowKit
attribute [local go_sem ↓] Go.wp_at_zero Go.wp_at_succ

set_option maxRecDepth 100000 in
set_option maxHeartbeats 6400000 in
theorem sameRule_sameq (x : Ru) (ap ap' ae ae' aa aa' : Option Addr) (cp cp' ce ce' ca ca' : Nat) (w : World) (hp : PtsAt none w ap x.pats) (hp' : PtsAt none w ap' x.pats) (he : ExsAt none w ae x.exprs) (he' : ExsAt none w ae' x.exprs) (ha : AcsAt none w aa x.acts) (ha' : AcsAt none w aa' x.acts) (hs : x.lq 1048576) :
    Calls Tryz.prog 18 #[.agg #[.string x.name, .int .i64 x.sal, .slice ap x.pats.length cp, .slice ae x.exprs.length ce, .slice aa x.acts.length ca], .agg #[.string x.name, .int .i64 x.sal, .slice ap' x.pats.length cp', .slice ae' x.exprs.length ce', .slice aa' x.acts.length ca']] w fun e w' => e = .returned (.bool true) ∧ Below w.heap.size w w' := by
  obtain ⟨_, ⟨lp, sp⟩, ⟨le, _⟩, la, sa⟩ := hs
  have HP := hidS (fun u (h : Below w.heap.size w u) => And.intro (hp.below h) (hp'.below h))
  have HE := hidS (fun u (h : Below w.heap.size w u) => And.intro (he.below h) (he'.below h))
  have HC := hidS (fun u (h : Below w.heap.size w u) => And.intro (ha.below h) (ha'.below h))
  have SP := hidS sp
  have SA := hidS sa
  clear hp hp' he he' ha ha' sp sa
  go_enter Tryz.func18, Tryz.ntmps18
  go_upto_region 1 with fail
  refine lift_two ?_
  intro w1 hW1 hq1 hq2
  have HW1 := hidS hW1
  have hl1 : w.heap.size + 1 < w1.heap.size := lt_of_block' hq2
  have FA := hidS (fun u (h : Below w1.heap.size w1 u) (j : Nat) v (hv : [Value.string x.name, .int .i64 x.sal, .slice ap x.pats.length cp, .slice ae x.exprs.length ce, .slice aa x.acts.length ca][j]? = some v) => cell_below h (cellS (L := [_, _, _, _, _]) hq1 hv))
  have FB := hidS (fun u (h : Below w1.heap.size w1 u) (j : Nat) v (hv : [Value.string x.name, .int .i64 x.sal, .slice ap' x.pats.length cp', .slice ae' x.exprs.length ce', .slice aa' x.acts.length ca'][j]? = some v) => cell_below h (cellS (L := [_, _, _, _, _]) hq2 hv))
  have a0 := FA.out w1 (Below.refl _ _) 0 _ rfl
  have a1 := FA.out w1 (Below.refl _ _) 1 _ rfl
  have a2 := FA.out w1 (Below.refl _ _) 2 _ rfl
  have a3 := FA.out w1 (Below.refl _ _) 3 _ rfl
  have a4 := FA.out w1 (Below.refl _ _) 4 _ rfl
  have b0 := FB.out w1 (Below.refl _ _) 0 _ rfl
  have b1 := FB.out w1 (Below.refl _ _) 1 _ rfl
  have b2 := FB.out w1 (Below.refl _ _) 2 _ rfl
  have b3 := FB.out w1 (Below.refl _ _) 3 _ rfl
  have b4 := FB.out w1 (Below.refl _ _) 4 _ rfl
  clear hW1 hq1 hq2
  go_wp2_with fail
  clear a0 a1 a2 a3 a4 b0 b1 b2 b3 b4
  go_loopw [55] (fun i wr => ∃ (k : Nat), k ≤ x.pats.length ∧ i = .int .i64 (k : Int) ∧ Below w1.heap.size w1 wr) (fun i _ => x.pats.length - (intOf i).toNat)
  case atStart => exact ⟨0, by omega, rfl, Below.refl _ _⟩
  case round =>
    obtain ⟨k, hk, rfl, hb⟩ := hrel
    have HB := hidS hb
    have HT := hidS (HW1.out.trans (hb.mono HW1.out.size))
    clear hb
    by_cases hkl : k < x.pats.length
    · have z0 : (0 : Int) ≤ (k : Int) := by omega
      have z1 : (k : Int) < (x.pats.length : Int) := by omega
      obtain ⟨p, hpk⟩ : ∃ p, x.pats[k]? = some p := ⟨x.pats[k], by simp [hkl]⟩
      obtain ⟨b, o, ta, tc, rfl, _, c0, c1, c2, ht⟩ := (HP.out _ HT.out).1.get hpk
      obtain ⟨b', o', ta', tc', rfl, _, d0, d1, d2, ht'⟩ := (HP.out _ HT.out).2.get hpk
      have a2 := FA.out wr HB.out 2 _ rfl
      have b2 := FB.out wr HB.out 2 _ rfl
      have hst := (SP.out p (List.mem_of_getElem? hpk)).2.1
      have HTM := hidS (fun u (h : Below wr.heap.size wr u) => And.intro (ht.below h) (ht'.below h))
      have hwl := HB.out.size
      clear hpk ht ht'
      go_upto_region 7 with fail
      refine lift_alloc ?_
      intro wa hWa hq1
      have hla : wr.heap.size < wa.heap.size := lt_of_block' hq1
      have HWa := hidS hWa
      have HQ1 := hidS hq1
      replace b2 := cell_below hWa b2
      replace d0 := cell_below hWa d0
      replace d1 := cell_below hWa d1
      replace d2 := cell_below hWa d2
      clear hWa hq1 a2 c0 c1 c2
      go_upto_region 8 with fail
      refine lift_alloc ?_
      intro w2 hWb hq2
      have hq1 := (hWb.block _ hla).trans HQ1.out
      have hW2 := HWa.out.trans (hWb.mono (Nat.le_of_lt hla))
      have p0 := cellS (L := [_, _, _]) hq1 (j := 0) rfl
      have p1 := cellS (L := [_, _, _]) hq1 (j := 1) rfl
      have p2 := cellS (L := [_, _, _]) hq1 (j := 2) rfl
      have q0 := cellS (L := [_, _, _]) hq2 (j := 0) rfl
      have q1 := cellS (L := [_, _, _]) hq2 (j := 1) rfl
      have q2 := cellS (L := [_, _, _]) hq2 (j := 2) rfl
      have hl2 : wa.heap.size < w2.heap.size := lt_of_block' hq2
      have B2 := hidS (HB.out.trans (hW2.mono hwl) : Below w1.heap.size w1 w2)
      have HT2 := hidS (fun u (h : Below w2.heap.size w2 u) => HTM.out u (hW2.trans (h.mono hW2.size)))
      have FP := hidS (fun u (h : Below w2.heap.size w2 u) => And.intro (cell_below h p2) (cell_below h q2))
      clear hW2 hq1 hq2 HTM hWb HWa HQ1
      go_wp2_with fail
      clear p0 p1 p2 q0 q1 q2 b2 d0 d1 d2
      obtain ⟨wo, rfl⟩ : ∃ v, v = wr := ⟨wr, rfl⟩
      go_loopw [92] (fun i wr => ∃ (j : Nat), j ≤ p.terms.length ∧ i = .int .i64 (j : Int) ∧ Below w2.heap.size w2 wr) (fun i _ => p.terms.length - (intOf i).toNat)
      case atStart => exact ⟨0, by omega, rfl, Below.refl _ _⟩
      case round =>
        obtain ⟨j, hj, rfl, hb2⟩ := hrel
        have HB2 := hidS hb2
        clear hb2
        have p2 := (FP.out _ HB2.out).1
        have q2 := (FP.out _ HB2.out).2
        have hs2 := HB2.out.size
        have hs1 := B2.out.size
        by_cases hjl : j < p.terms.length
        · have y0 : (0 : Int) ≤ (j : Int) := by omega
          have y1 : (j : Int) < (p.terms.length : Int) := by omega
          obtain ⟨t, htk⟩ : ∃ t, p.terms[j]? = some t := ⟨p.terms[j], by simp [hjl]⟩
          obtain ⟨tb, tf, rfl, _, c0, c1, c2, c3, c4, c5⟩ := (HT2.out _ HB2.out).1.get htk
          obtain ⟨tb', tf', rfl, _, d0, d1, d2, d3, d4, d5⟩ := (HT2.out _ HB2.out).2.get htk
          clear htk
          go_wp2_with fail
          go_region_held3 (fun w' => w'.cell? ⟨wo.heap.size, 2, none⟩ = some (.slice (some ⟨tb, tf, none⟩) p.terms.length tc) ∧ w'.cell? ⟨wa.heap.size, 2, none⟩ = some (.slice (some ⟨tb', tf', none⟩) p.terms.length tc') ∧ w'.cell? ⟨tb, tf + j * 6, none⟩ = some (.int .i64 t.kind) ∧ w'.cell? ⟨tb, tf + j * 6 + 1, none⟩ = some (.int .i64 t.op) ∧ w'.cell? ⟨tb, tf + j * 6 + 2, none⟩ = some (.string t.var) ∧ w'.cell? ⟨tb, tf + j * 6 + 3, none⟩ = some (.int .i64 t.val.kind) ∧ w'.cell? ⟨tb, tf + j * 6 + 4, none⟩ = some (.int .i64 t.val.num) ∧ w'.cell? ⟨tb, tf + j * 6 + 5, none⟩ = some (.string t.val.sym) ∧ w'.cell? ⟨tb', tf' + j * 6, none⟩ = some (.int .i64 t.kind) ∧ w'.cell? ⟨tb', tf' + j * 6 + 1, none⟩ = some (.int .i64 t.op) ∧ w'.cell? ⟨tb', tf' + j * 6 + 2, none⟩ = some (.string t.var) ∧ w'.cell? ⟨tb', tf' + j * 6 + 3, none⟩ = some (.int .i64 t.val.kind) ∧ w'.cell? ⟨tb', tf' + j * 6 + 4, none⟩ = some (.int .i64 t.val.num) ∧ w'.cell? ⟨tb', tf' + j * 6 + 5, none⟩ = some (.string t.val.sym)) ((go_split_ands; refine ⟨?_, ?_, ?_, ?_, ?_, ?_, ?_, ?_, ?_, ?_, ?_, ?_, ?_, ?_⟩ <;> first | (simp [*]; done) | exact cell_below hb' (by simp [*])))
            (first | (go_at_call 49; refine (sameTerm_sameq t _).mono ?_; rintro e w' ⟨rfl, hb'⟩))
          go_wp2_with fail
          go_roundw
          case rel => exact ⟨j + 1, by omega, by go_num, HB2.out.drew.trans (hb'.mono HB2.out.size)⟩
          case measure => simp [intOf]; omega
        · have y1 : ¬ (j : Int) < (p.terms.length : Int) := by omega
          go_wp2_with fail
          go_roundw
          case rel => exact ⟨k + 1, by omega, by go_num, B2.out.trans (HB2.out.mono hs1)⟩
          case measure => simp [intOf]; omega
    · have z1 : ¬ (k : Int) < (x.pats.length : Int) := by omega
      have a3 := FA.out wr HB.out 3 _ rfl
      obtain ⟨wo, rfl⟩ : ∃ v, v = wr := ⟨wr, rfl⟩
      have hw1o := HB.out.size
      go_wp2_with fail
      clear a3 hkl z1
      go_loopw [112] (fun i wr => ∃ (j : Nat), j ≤ x.exprs.length ∧ i = .int .i64 (j : Int) ∧ Below wo.heap.size wo wr) (fun i _ => x.exprs.length - (intOf i).toNat)
      case atStart => exact ⟨0, by omega, rfl, Below.refl _ _⟩
      case round =>
        obtain ⟨j, hj, rfl, hb2⟩ := hrel
        have HB2 := hidS (HB.out.trans (hb2.mono hw1o))
        have HR := hidS hb2
        clear hb2
        by_cases hjl : j < x.exprs.length
        · have y0 : (0 : Int) ≤ (j : Int) := by omega
          have y1 : (j : Int) < (x.exprs.length : Int) := by omega
          obtain ⟨t, htk⟩ : ∃ t, x.exprs[j]? = some t := ⟨x.exprs[j], by simp [hjl]⟩
          have HX := HE.out _ (HW1.out.trans (HB2.out.mono HW1.out.size))
          obtain ⟨tb, tf, rfl, _, c0, c1, c2, c3, c4, c5, c6, c7⟩ := HX.1.get htk
          obtain ⟨tb', tf', rfl, _, d0, d1, d2, d3, d4, d5, d6, d7⟩ := HX.2.get htk
          have a3 := FA.out wr HB2.out 3 _ rfl
          have b3 := FB.out wr HB2.out 3 _ rfl
          clear htk HX
          go_wp2_with fail
          go_region
          go_wp2_with fail
          go_roundw
          case rel => exact ⟨j + 1, by omega, by go_num, HR.out.drew⟩
          case measure => simp [intOf]; omega
        · have y1 : ¬ (j : Int) < (x.exprs.length : Int) := by omega
          have a4 := FA.out wr HB2.out 4 _ rfl
          obtain ⟨wv, rfl⟩ : ∃ v, v = wr := ⟨wr, rfl⟩
          have hw1v := HB2.out.size
          go_wp2_with fail
          clear a4 hjl y1
          go_loopw [130] (fun i wr => ∃ (m : Nat), m ≤ x.acts.length ∧ i = .int .i64 (m : Int) ∧ Below wv.heap.size wv wr) (fun i _ => x.acts.length - (intOf i).toNat)
          case atStart => exact ⟨0, by omega, rfl, Below.refl _ _⟩
          case round =>
            obtain ⟨m, hm, rfl, hb3⟩ := hrel
            have HB3 := hidS (HB2.out.trans (hb3.mono hw1v))
            have HR3 := hidS hb3
            clear hb3
            by_cases hml : m < x.acts.length
            · have y0 : (0 : Int) ≤ (m : Int) := by omega
              have y1 : (m : Int) < (x.acts.length : Int) := by omega
              obtain ⟨t, htk⟩ : ∃ t, x.acts[m]? = some t := ⟨x.acts[m], by simp [hml]⟩
              have HX := HC.out _ (HW1.out.trans (HB3.out.mono HW1.out.size))
              obtain ⟨tb, tf, ga, gc, rfl, _, c0, c1, c2, c3, hg⟩ := HX.1.get htk
              obtain ⟨tb', tf', ga', gc', rfl, _, d0, d1, d2, d3, hg'⟩ := HX.2.get htk
              have hgl := (SA.out t (List.mem_of_getElem? htk)).2
              have a4 := FA.out wr HB3.out 4 _ rfl
              have b4 := FB.out wr HB3.out 4 _ rfl
              have HG := hidS (fun u (h : Below wr.heap.size wr u) => And.intro (hg.below h) (hg'.below h))
              have hs3 := HB3.out.size
              clear htk HX hg hg'
              go_upto_region 27 with fail
              refine lift_alloc ?_
              intro wa hWa hq1
              have hla : wr.heap.size < wa.heap.size := lt_of_block' hq1
              have HWa := hidS hWa
              have HQ1 := hidS hq1
              replace b4 := cell_below hWa b4
              replace d0 := cell_below hWa d0
              replace d1 := cell_below hWa d1
              replace d2 := cell_below hWa d2
              replace d3 := cell_below hWa d3
              clear hWa hq1 a4 c0 c1 c2 c3
              go_upto_region 28 with fail
              refine lift_alloc ?_
              intro w5 hWb hq2
              have hq1 := (hWb.block _ hla).trans HQ1.out
              have hW5 := HWa.out.trans (hWb.mono (Nat.le_of_lt hla))
              have p0 := cellS (L := [_, _, _, _]) hq1 (j := 0) rfl
              have p1 := cellS (L := [_, _, _, _]) hq1 (j := 1) rfl
              have p2 := cellS (L := [_, _, _, _]) hq1 (j := 2) rfl
              have p3 := cellS (L := [_, _, _, _]) hq1 (j := 3) rfl
              have q0 := cellS (L := [_, _, _, _]) hq2 (j := 0) rfl
              have q1 := cellS (L := [_, _, _, _]) hq2 (j := 1) rfl
              have q2 := cellS (L := [_, _, _, _]) hq2 (j := 2) rfl
              have q3 := cellS (L := [_, _, _, _]) hq2 (j := 3) rfl
              have hl5 : wa.heap.size < w5.heap.size := lt_of_block' hq2
              have HW5 := hidS hW5
              clear hW5 hq1 hq2 hWb HWa HQ1
              go_wp2_with (first | (go_at_call 50; refine (sameTags_sameq t.args ga ga' gc gc' _ (HG.out _ HW5.out).1 (HG.out _ HW5.out).2 hgl).mono ?_; rintro e w6 ⟨rfl, hb6⟩) | fail)
              go_roundw
              case rel => exact ⟨m + 1, by omega, by go_num, (HR3.out.trans (HW5.out.mono HR3.out.size)).trans (hb6.mono (Nat.le_trans HR3.out.size HW5.out.size))⟩
              case measure => simp [intOf]; omega
            · have y1 : ¬ (m : Int) < (x.acts.length : Int) := by omega
              go_wp2_with fail
              go_ret
              exact ⟨rfl, HW1.out.trans (HB3.out.mono HW1.out.size)⟩
end Go.Proofs.YtjjjagepnnbebaaGreatDoor

namespace Go.Proofs.YtjjjagepnnbebaaGreatDoor
open Go.RowKit

section
variable {β γ : Type}
theorem flat_atG {f : β → List Value} {m : Nat} {x : β} {v : Value} {j : Nat} : ∀ (l : List β) (i : Nat), (∀ x ∈ l, (f x).length = m) → l[i]? = some x → (f x)[j]? = some v → (l.flatMap f)[i * m + j]? = some v
  | [], i, _, h, _ => by simp at h
  | y :: r, 0, hm, h, hv => by
    simp at h
    subst h
    have hl : j < (f y).length := (List.getElem?_eq_some_iff.1 hv).1
    rw [List.flatMap_cons, List.getElem?_append_left (by omega)]
    simpa using hv
  | y :: r, i + 1, hm, h, hv => by
    have hy := hm y (by simp)
    have e : (i + 1) * m + j = (f y).length + (i * m + j) := by rw [hy, Nat.succ_mul]; omega
    rw [List.flatMap_cons, e, List.getElem?_append_right (by omega), Nat.add_sub_cancel_left]
    exact flat_atG r i (fun z hz => hm z (by simp [hz])) (by simpa using h) hv
/-- What owns its row can be read. -/
theorem RowsAt.of_owns {w : World} {B n c t m : Nat} {a : Option Addr} {f : γ → List Value} {R : World → List Value → β → Prop} {p : γ → β} {M : List γ} (h : w.ownsRow B t m (.slice a n c) n (M.flatMap f)) (hm : ∀ x ∈ M, (f x).length = m) (h0 : 0 < m) (hR : ∀ x ∈ M, R w (f x) (p x)) : RowsAt R none t m w a (M.map p) := by
  intro i y hy
  rw [List.getElem?_map, Option.map_eq_some_iff] at hy
  obtain ⟨x, hx, rfl⟩ := hy
  have hxm := List.mem_of_getElem? hx
  obtain ⟨v, hv⟩ : ∃ v, (f x)[0]? = some v := ⟨(f x)[0]'(by rw [hm x hxm]; exact h0), List.getElem?_eq_getElem _⟩
  obtain ⟨g, rfl, _, _, _⟩ := owns_cell h (flat_atG M i hm hx hv)
  refine ⟨g, 0, f x, rfl, Qb.bare _ _ _, hm x hxm, ?_, hR x hxm⟩
  intro j u hu
  obtain ⟨g', hg', _, hc, _⟩ := owns_cell h (flat_atG M i hm hx hu)
  cases hg'
  rwa [Nat.zero_add]
end
end Go.Proofs.YtjjjagepnnbebaaGreatDoor

/-
  OUR OWN TEXT. The model's parser: its state; fail, look.
-/
import Derived.Test.YtdhpoagjmiligaaGreatDoorKas
import Derived.Test.YtdhpoagjmiligaaGreatDoorKap
namespace Go.Proofs.YtdhpoagjmiligaaGreatDoor
open Go.RowKit
attribute [local go_sem ↓] Go.wp_at_zero Go.wp_at_succ

/-- Where reading stands: at a fault, or ahead of some words. -/
abbrev Ps := Except Flt (List Wd)
def onS {α : Type} (s : Ps) (p : List Wd → Px α) : Px α := match s with
  | .error f => .error f
  | .ok l => p l
def stS {α : Type} (r : Px α) : Ps := match r with
  | .error f => .error f
  | .ok (_, l) => .ok l
def failS (code : Int) (s : Ps) : Ps := match s with
  | .error f => .error f
  | .ok l => .error (code, (l.headD ⟨0, 0, [], 0⟩).pos)
def lookK (s : Ps) : Int := match s with
  | .error _ => -1
  | .ok l => match nextW l with
    | .error _ => -1
    | .ok (x, _) => x.kind
def lookS (s : Ps) : Ps := match s with
  | .error f => .error f
  | .ok l => match nextW l with
    | .error f => .error f
    | .ok _ => .ok l
/-- The words in memory. -/
def WdsAt (w : World) (g : Nat) (W : List Wd) : Prop := ∀ (j : Nat) (x : Wd), W[j]? = some x → w.rangeAt g (j * 4) (wdV x)
def StOk (W : List Wd) (k : Nat) (code : Int) (pos : Nat) (s : Ps) : Prop := match s with
  | .ok l => code = 0 ∧ pos = 0 ∧ W.drop k = l
  | .error f => code = f.1 ∧ pos = f.2 ∧ f.1 ≠ 0
/-- The model's parser in its box. -/
structure MB (w : World) (pb g : Nat) (W : List Wd) (c : Nat) (s : Ps) (R : List Value) : Prop where
  st : ∃ (k : Nat) (code : Int) (pos : Nat), w.heap[pb]? = some (.cells (.slice (some ⟨g, 0, none⟩) W.length c :: .int .i64 (k : Int) :: .int .i64 code :: .int .i64 (pos : Int) :: R).toArray 48 (0, 0)) ∧ k < W.length ∧ StOk W k code pos s
  wds : WdsAt w g W
  far : g ≠ pb
  ok : ∀ x ∈ W, WdOk x ∧ x.text.length ≤ 20000
  ends : WsOk W
  caps : W.length ≤ c
  len : W.length ≤ 20001
theorem MB.lt {w : World} {pb g : Nat} {W : List Wd} {c : Nat} {s : Ps} {R : List Value} (h : MB w pb g W c s R) : pb < w.heap.size := by
  obtain ⟨k, code, pos, hq, _⟩ := h.st
  exact lt_of_block' hq
theorem MB.glt {w : World} {pb g : Nat} {W : List Wd} {c : Nat} {s : Ps} {R : List Value} (h : MB w pb g W c s R) : g < w.heap.size := by
  obtain ⟨k, code, pos, hq, hk, _⟩ := h.st
  have hx : W[k]? = some W[k] := List.getElem?_eq_getElem hk
  have := h.wds k _ hx 0 _ rfl
  exact World.block_lt_of_cell? w ⟨g, _, none⟩ this
theorem WdsAt.block {w w' : World} {g : Nat} {W : List Wd} (h : WdsAt w g W) (hb : w'.heap[g]? = w.heap[g]?) : WdsAt w' g W := fun j x hx i v hv => (World.cell?_of_block (w := w) hb).trans (h j x hx i v hv)
/-- The box turned, all else as it was. -/
theorem MB.to {w w' : World} {pb g : Nat} {W : List Wd} {c : Nat} {s s' : Ps} {R R' : List Value} (h : MB w pb g W c s R) (hm : MkO (some pb) w w')
    (hs : ∃ (k : Nat) (code : Int) (pos : Nat), w'.heap[pb]? = some (.cells (.slice (some ⟨g, 0, none⟩) W.length c :: .int .i64 (k : Int) :: .int .i64 code :: .int .i64 (pos : Int) :: R').toArray 48 (0, 0)) ∧ k < W.length ∧ StOk W k code pos s') : MB w' pb g W c s' R' :=
  ⟨hs, h.wds.block (hm.block g h.glt (fun e => h.far (by injection e with e; exact e.symm))), h.far, h.ok, h.ends, h.caps, h.len⟩
theorem MB.below {w w' : World} {pb g : Nat} {W : List Wd} {c : Nat} {s : Ps} {R : List Value} (h : MB w pb g W c s R) (hb : Below w.heap.size w w') : MB w' pb g W c s R := by
  obtain ⟨k, code, pos, hq, hk, hs⟩ := h.st
  exact h.to (MkO.of_below hb) ⟨k, code, pos, (hb.block pb h.lt).trans hq, hk, hs⟩
/-- What reading leaves. -/
def MPost {α : Type} (w : World) (pb g : Nat) (W : List Wd) (c : Nat) (R : List Value) (Q : α → Ending → World → Prop) (r : Px α) (e : Ending) (w' : World) : Prop := MkO (some pb) w w' ∧ (∃ x, Q x e w' ∧ ∀ y l, r = .ok (y, l) → y = x) ∧ MB w' pb g W c (stS r) R
theorem cell_of {w : World} {b : Nat} {L : List Value} {t : TypeId} (h : w.heap[b]? = some (.cells L.toArray t (0, 0))) {j : Nat} {v : Value} (hv : L[j]? = some v) : w.cell? ⟨b, j, none⟩ = some v := by
  simp [World.cell?, h, hv]
theorem froz_of {w : World} {b : Nat} {L : Array Value} {t : TypeId} (h : w.heap[b]? = some (.cells L t (0, 0))) (j : Nat) : w.frozen? ⟨b, j, none⟩ = false := by
  simp [World.frozen?, h]
theorem wdrop {W l : List Wd} {k : Nat} (h : W.drop k = l) (hk : k < W.length) : ∃ x r, l = x :: r ∧ W[k]? = some x ∧ W.drop (k + 1) = r := by
  rw [← h]
  exact ⟨W[k], W.drop (k + 1), List.drop_eq_getElem_cons hk, List.getElem?_eq_getElem hk, rfl⟩
set_option maxRecDepth 100000 in
set_option maxHeartbeats 1600000 in
theorem fail_any (w : World) (pb g : Nat) (W : List Wd) (c : Nat) (s : Ps) (R : List Value) (code : Int) (hcode : ¬ code = 0) (h : MB w pb g W c s R) : Calls Tryz.prog 20 #[.pointer (some ⟨pb, 0, none⟩), .int .i64 code] w fun e w' => e = .returned (.tuple #[]) ∧ MkO (some pb) w w' ∧ MB w' pb g W c (failS code s) R := by
  have HM := hidX h
  obtain ⟨k, cd, pos, hq, hk, hs⟩ := h.st
  have c0 := cell_of hq (j := 0) rfl
  have c1 := cell_of hq (j := 1) rfl
  have c2 := cell_of hq (j := 2) rfl
  have HQ := hidX hq
  cases s with
  | error f =>
    obtain ⟨rfl, rfl, hne⟩ := hs
    clear h hq
    go_enter Tryz.func20, Tryz.ntmps20
    go_wp2_with fail
    go_end0
    exact ⟨rfl, MkO.refl _ _, HM.out⟩
  | ok l =>
    obtain ⟨rfl, rfl, hd⟩ := hs
    obtain ⟨x, r, rfl, hx, _⟩ := wdrop hd hk
    have hpb := h.lt
    have hg := h.glt
    have hfar := h.far
    have x1 := h.wds k x hx 1 _ rfl
    have HC := hidX hcode
    have z2 := froz_of hq 2
    have hkc := h.caps
    have hkl := h.len
    clear h hq hd hcode hx
    go_enter Tryz.func20, Tryz.ntmps20
    go_upto_region 2 with fail
    refine lift_setW HQ.out ?_
    intro w1 hq1 ht1
    have hq1' : w1.heap[pb]? = some (.cells (.slice (some ⟨g, 0, none⟩) W.length c :: .int .i64 (k : Int) :: .int .i64 code :: .int .i64 ((0 : Nat) : Int) :: R).toArray 48 (0, 0)) := by
      rw [hq1]
      simp
    have d0 := cell_of hq1' (j := 0) rfl
    have d1 := cell_of hq1' (j := 1) rfl
    have y1 : w1.cell? ⟨g, k * 4 + 1, none⟩ = some (.int .i64 (x.pos : Int)) := (ht1.cell (p := ⟨g, k * 4 + 1, none⟩) hfar).trans x1
    have e3 := froz_of hq1' 3
    have d3 := cell_of hq1' (j := 3) rfl
    have HQ1 := hidX hq1'
    have HT1 := hidX ht1
    have hp1 := lt_of_block' hq1'
    have hg1 : g < w1.heap.size := by rw [ht1.size]; exact hg
    clear hq1 ht1 hq1' c0 c1 c2 x1 z2 HQ hpb hg
    go_region
    go_wp2_with fail
    go_end0
    refine ⟨rfl, (HT1.out.mko.drew).trans (MkO.set _), ?_⟩
    have hq2 := heap_setCell_same (i := 3) HQ1.out (.int .i64 (x.pos : Int))
    exact HM.out.to ((HT1.out.mko.drew).trans (MkO.set _)) ⟨k, code, x.pos, hq2.trans (by simp), hk, rfl, rfl, HC.out⟩
def codeS (s : Ps) : Int := match s with
  | .error f => f.1
  | .ok _ => 0
theorem MB.code {w : World} {pb g : Nat} {W : List Wd} {c : Nat} {s : Ps} {R : List Value} (h : MB w pb g W c s R) : w.cell? ⟨pb, 2, none⟩ = some (.int .i64 (codeS s)) := by
  obtain ⟨k, cd, pos, hq, hk, hs⟩ := h.st
  have := cell_of hq (j := 2) rfl
  rw [this]
  cases s with
  | error f => obtain ⟨rfl, rfl, hne⟩ := hs; rfl
  | ok l => obtain ⟨rfl, rfl, hd⟩ := hs; rfl
theorem MB.code_err {w : World} {pb g : Nat} {W : List Wd} {c : Nat} {f : Flt} {R : List Value} (h : MB w pb g W c (.error f) R) : ¬ f.1 = 0 := by
  obtain ⟨k, cd, pos, hq, hk, hs⟩ := h.st
  exact hs.2.2
theorem next7 {x : Wd} {r : List Wd} (h : x.kind = 7) : nextW (x :: r) = .error (1, x.pos) := by simp [nextW, badW, h]
theorem next8 {x : Wd} {r : List Wd} (h : x.kind = 8) : nextW (x :: r) = .error (2, x.pos) := by simp [nextW, badW, h]
theorem nextN {x : Wd} {r : List Wd} (h : ¬ x.kind = 7) (h8 : ¬ x.kind = 8) : nextW (x :: r) = .ok (x, if x.kind = 0 then x :: r else r) := by simp [nextW, badW, h, h8]
theorem look_err {l : List Wd} {f : Flt} (h : nextW l = .error f) : lookK (.ok l) = -1 ∧ lookS (.ok l) = .error f := by simp [lookK, lookS, h]
theorem look_ok {l r : List Wd} {x : Wd} (h : nextW l = .ok (x, r)) : lookK (.ok l) = x.kind ∧ lookS (.ok l) = .ok l := by simp [lookK, lookS, h]
/-- What a look leaves. -/
def LkPost (w : World) (pb g : Nat) (W : List Wd) (c : Nat) (R : List Value) (s : Ps) (e : Ending) (w' : World) : Prop := e = .returned (.int .i64 (lookK s)) ∧ MkO (some pb) w w' ∧ MB w' pb g W c (lookS s) R
set_option maxRecDepth 100000 in
set_option maxHeartbeats 1600000 in
theorem look_any (w : World) (pb g : Nat) (W : List Wd) (c : Nat) (s : Ps) (R : List Value) (h : MB w pb g W c s R) : Calls Tryz.prog 19 #[.pointer (some ⟨pb, 0, none⟩)] w (LkPost w pb g W c R s) := by
  have HM := hidX h
  obtain ⟨k, cd, pos, hq, hk, hs⟩ := h.st
  have c0 := cell_of hq (j := 0) rfl
  have c1 := cell_of hq (j := 1) rfl
  have c2 := h.code
  have hpb := h.lt
  have hg := h.glt
  have hfar := h.far
  have hkc := h.caps
  have hkl := h.len
  obtain ⟨x, r, hl, hx, _⟩ := wdrop (l := W.drop k) rfl hk
  have x0 := h.wds k x hx 0 _ rfl
  simp only [Nat.add_zero] at x0
  have F1 := hidX (fun u (hu : MB u pb g W c s R) => fail_any u pb g W c s R 1 (by decide) hu)
  have F2 := hidX (fun u (hu : MB u pb g W c s R) => fail_any u pb g W c s R 2 (by decide) hu)
  obtain ⟨K, hK⟩ : ∃ K, K = x.kind := ⟨_, rfl⟩
  rw [← hK] at x0
  have HK := hidX hK
  have HX := hidX hx
  cases s with
  | error f =>
    have hne := h.code_err
    have HP : Hid (∀ u, MkO (some pb) w u → MB u pb g W c (.error f) R → LkPost w pb g W c R (.error f) (.returned (.int .i64 (-1))) u) := show ∀ u, _ from fun u hm hb => ⟨rfl, hm, hb⟩
    simp only [codeS] at c2
    clear h hq hs hK hx hl
    by_cases h7 : K = 7
    · subst h7
      go_enter Tryz.func19, Tryz.ntmps19
      go_upto_region 1 with fail
      go_region
      go_wp2_with (first | (go_at_call 20; refine (F1.out _ (HM.out.below (Below.refl _ _).drew)).mono ?_; rintro e w2 ⟨rfl, hm2, hb2⟩; have c22 := hb2.code; simp only [failS, codeS] at c22) | fail)
      go_ret
      exact HP.out _ (MkO.trans (MkO.refl _ _).drew hm2) hb2
    · by_cases h8 : K = 8
      · subst h8
        go_enter Tryz.func19, Tryz.ntmps19
        go_upto_region 1 with fail
        go_region
        go_wp2_with (first | (go_at_call 20; refine (F2.out _ (HM.out.below (Below.refl _ _).drew)).mono ?_; rintro e w2 ⟨rfl, hm2, hb2⟩; have c22 := hb2.code; simp only [failS, codeS] at c22) | fail)
        go_ret
        exact HP.out _ (MkO.trans (MkO.refl _ _).drew hm2) hb2
      · go_enter Tryz.func19, Tryz.ntmps19
        go_upto_region 1 with fail
        go_region
        go_wp2_with fail
        go_ret
        exact HP.out _ (MkO.refl _ _).drew (HM.out.below (Below.refl _ _).drew)
  | ok l =>
    obtain ⟨rfl, rfl, hd⟩ := hs
    have hlx : l = x :: r := hd.symm.trans hl
    subst hlx
    simp only [codeS] at c2
    clear h hq hx hl hd
    by_cases h7 : K = 7
    · have HN := hidX (next7 (r := r) (hK.symm.trans h7))
      have HP : Hid (∀ u, MkO (some pb) w u → MB u pb g W c (.error (1, x.pos)) R → LkPost w pb g W c R (.ok (x :: r)) (.returned (.int .i64 (-1))) u) := show ∀ u, _ from fun u hm hb => by
        unfold LkPost
        rw [(look_err HN.out).1, (look_err HN.out).2]
        exact ⟨rfl, hm, hb⟩
      clear hK
      subst h7
      go_enter Tryz.func19, Tryz.ntmps19
      go_upto_region 1 with fail
      go_region
      go_wp2_with (first | (go_at_call 20; refine (F1.out _ (HM.out.below (Below.refl _ _).drew)).mono ?_; rintro e w2 ⟨rfl, hm2, hb2⟩; have c22 := hb2.code; simp only [failS, codeS] at c22) | fail)
      go_ret
      exact HP.out _ (MkO.trans (MkO.refl _ _).drew hm2) hb2
    · by_cases h8 : K = 8
      · have HN := hidX (next8 (r := r) (hK.symm.trans h8))
        have HP : Hid (∀ u, MkO (some pb) w u → MB u pb g W c (.error (2, x.pos)) R → LkPost w pb g W c R (.ok (x :: r)) (.returned (.int .i64 (-1))) u) := show ∀ u, _ from fun u hm hb => by
          unfold LkPost
          rw [(look_err HN.out).1, (look_err HN.out).2]
          exact ⟨rfl, hm, hb⟩
        clear hK
        subst h8
        go_enter Tryz.func19, Tryz.ntmps19
        go_upto_region 1 with fail
        go_region
        go_wp2_with (first | (go_at_call 20; refine (F2.out _ (HM.out.below (Below.refl _ _).drew)).mono ?_; rintro e w2 ⟨rfl, hm2, hb2⟩; have c22 := hb2.code; simp only [failS, codeS] at c22) | fail)
        go_ret
        exact HP.out _ (MkO.trans (MkO.refl _ _).drew hm2) hb2
      · have HN := hidX (nextN (r := r) (fun e => h7 (hK.trans e)) (fun e => h8 (hK.trans e)))
        have HP : Hid (∀ u, MkO (some pb) w u → MB u pb g W c (.ok (x :: r)) R → LkPost w pb g W c R (.ok (x :: r)) (.returned (.int .i64 K)) u) := show ∀ u, _ from fun u hm hb => by
          unfold LkPost
          rw [(look_ok HN.out).1, (look_ok HN.out).2]
          exact ⟨by rw [hK], hm, hb⟩
        clear hK
        go_enter Tryz.func19, Tryz.ntmps19
        go_upto_region 1 with fail
        go_region
        go_wp2_with fail
        go_ret
        exact HP.out _ (MkO.refl _ _).drew (HM.out.below (Below.refl _ _).drew)
end Go.Proofs.YtdhpoagjmiligaaGreatDoor

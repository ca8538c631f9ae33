/-
  OUR OWN TEXT. In2, Fr1, Cf1, one behind the other.
-/
import Derived.Test.YtognpkdgphebeaaGreatWc
import Derived.Test.YtognpkdgphebeaaGreatVb
import Derived.Test.YtognpkdgphebeaaGreatProg
import Derived.RangeFuncFrom
import Derived.RangeFuncCalls
import Derived.OwnWalkIn
import Derived.OrdersHeld
import Derived.Deep.RegionHeld3
import Derived.Test.YtognpkdgphebeaaGreatVc
import Derived.RangeFuncNested
namespace Go.Proofs.YtognpkdgphebeaaGreat
open Go.RowKit Go.Maps
attribute [local go_sem ↓] Go.wp_at_zero Go.wp_at_succ

theorem zeros3 : madeCells #[.int .i64 0] 3 = #[.int .i64 0, .int .i64 0, .int .i64 0] := by kernel_rfl
theorem mk03 (w : World) : (Instr.makeSlice 28 (.int .i64 0) (.int .i64 3)).run Tryz.prog w = .ok (.slice (some ⟨w.heap.size, 0, none⟩) 0 3) (w.alloc (.cells #[.int .i64 0, .int .i64 0, .int .i64 0] 3)) := by
  obtain ⟨i, hi, hz0, hz1, hz2⟩ := info_parts infoIM
  have hr := run_make (P := Tryz.prog) w 28 3 i _ Tryz.underlying28 hi hz0 .i64 .i64 0 3 (by omega) (by omega) (by rw [hz2]; omega) (by omega)
  rw [hr, hz1]
  exact congrArg (fun c => Result.ok (Value.slice (some ⟨w.heap.size, 0, none⟩) 0 3) (w.alloc (.cells c 3))) zeros3
theorem own03 {w : World} {base g : Nat} (h : w.heap[g]? = some (.cells #[.int .i64 0, .int .i64 0, .int .i64 0] 3 (0, 0))) (hb : base ≤ g) : w.ownsRow base 3 1 (.slice (some ⟨g, 0, none⟩) 0 3) 0 (icells []) :=
  ⟨rfl, .inr ⟨g, 3, _, rfl, hb, h, by omega, by unfold maxLen; omega, rfl, rfl⟩⟩
theorem ic_take {T : List F} {k : Nat} {f : F} (h : T[k]? = some f) : (T.take (k + 1)).map (·.tag) = (T.take k).map (·.tag) ++ [f.tag] := by
  rw [List.take_add_one, h]
  simp
theorem ix3 (x0 x1 x2 : Value) (w : World) : (Instr.index 91 (.agg #[x0, x1, x2]) (.int .i64 0)).run Tryz.prog w = .ok x0 w ∧ (Instr.index 91 (.agg #[x0, x1, x2]) (.int .i64 1)).run Tryz.prog w = .ok x1 w ∧ (Instr.index 91 (.agg #[x0, x1, x2]) (.int .i64 2)).run Tryz.prog w = .ok x2 w := ⟨by kernel_rfl, by kernel_rfl, by kernel_rfl⟩
def TgPost (xs : List Int) (w : World) (e : Ending) (w' : World) : Prop := (∃ a c, e = .returned (.slice a xs.length c) ∧ w'.ownsRow w.heap.size 3 1 (.slice a xs.length c) xs.length (icells xs)) ∧ Below w.heap.size w w'
set_option maxRecDepth 100000 in
set_option maxHeartbeats 6400000 in
theorem tokTags_any (p0 p1 p2 : Option Addr) (T : List F) (w : World) (hT : TokX w p0 p1 p2 T) :
    Calls Tryz.prog 63 #[.agg #[.pointer p0, .pointer p1, .pointer p2]] w (TgPost (T.map (·.tag)) w) := by
  have HT := hidP hT
  have hl3 := hT.le
  have hmk := mk03
  clear hT
  go_enter Tryz.func63, Tryz.ntmps63
  go_upto_region 2 with fail
  refine lift2P ?_
  intro w1 hW1 hq0 hq1
  obtain ⟨t0, t1, t2⟩ := cells3P hq0
  have H1 := hidP hW1
  have O1 := hidP (own03 (base := w.heap.size) hq1 (Nat.le_succ _))
  clear hW1 hq0 hq1 hmk
  go_wp2_with fail
  clear t0 t1 t2
  go_loopw [8, 3] (fun iv sv wr => ∃ (k : Nat) (ki : Int) (a : Option Addr) (c : Nat), iv = .int .i64 ki ∧ ki = (k : Int) ∧ k ≤ 3 ∧ sv = .slice a ((T.take k).map (·.tag)).length c ∧ wr.ownsRow w.heap.size 3 1 (.slice a ((T.take k).map (·.tag)).length c) ((T.take k).map (·.tag)).length (icells ((T.take k).map (·.tag))) ∧ Below w.heap.size w wr) (fun iv _ _ => 3 - (intOf iv).toNat)
  case atStart => exact ⟨0, 0, _, 3, rfl, rfl, Nat.zero_le _, rfl, O1.out, H1.out⟩
  case round =>
    obtain ⟨k, ki, a, c, rfl, hki, hkl, rfl, hrow, hb⟩ := hrel
    have ROW := hidP hrow
    have BR := hidP hb
    have TR := hidP (HT.out.tok.below hb)
    have hsr := hb.size
    have hln : ((T.take k).map (·.tag)).length ≤ 3 := by rw [List.length_map, List.length_take]; omega
    have HWR := hidP (fun o' => (Below.refl _ _).alloc (Nat.le_refl _) o' : ∀ o', Below wr.heap.size wr (wr.alloc o'))
    clear hrow hb
    rcases (show k = 0 ∨ k = 1 ∨ k = 2 ∨ k = 3 by omega) with rfl | rfl | rfl | rfl
    · obtain rfl : ki = 0 := by omega
      clear hki
      by_cases hk : 0 < T.length
      · obtain ⟨f, hf⟩ : ∃ f, T[0]? = some f := ⟨T[0], by simp [hk]⟩
        obtain ⟨pv, hp, hfac⟩ := TR.out 0 f hf
        simp at hp
        subst hp
        obtain ⟨fb, fo, he, c0, _⟩ := hfac
        injection he with he
        subst he
        have HTK := hidP (ic_take hf)
        obtain ⟨n, hn⟩ : ∃ n, n = ((T.take 0).map (·.tag)).length := ⟨_, rfl⟩
        obtain ⟨xs, hxs⟩ : ∃ xs, xs = (T.take 0).map (·.tag) := ⟨_, rfl⟩
        rw [← hxs] at ROW hln hn HTK ⊢
        rw [← hn] at ROW hln ⊢
        have HN := hidP hn
        clear hf hk hn hxs TR
        obtain ⟨j0, j1, j2⟩ : (∀ w, _) ∧ (∀ w, _) ∧ (∀ w, _) := ⟨fun w => (ix3 (.pointer (some ⟨fb, fo, none⟩)) (.pointer p1) (.pointer p2) w).1, fun w => (ix3 (.pointer (some ⟨fb, fo, none⟩)) (.pointer p1) (.pointer p2) w).2.1, fun w => (ix3 (.pointer (some ⟨fb, fo, none⟩)) (.pointer p1) (.pointer p2) w).2.2⟩
        go_wp2_with (first | (at_builtin; refine wpList_append_any (by rfl) (.tmp 13) (.tmp 18) 28 (by rfl) w.heap.size 3 _ 1 8 Tryz.underlying28 infoIM (by rfl) (by omega) _ n _ (by rfl) (own_bel ROW.out (HWR.out _)) (some ⟨_, 0, none⟩) 1 1 (by rfl) [.int .i64 f.tag] (by rfl) (fun e => by cases e) (news_new _ _ _ _ (by simp)) (by intro u hu; simp at hu; subst hu; rfl) (by unfold maxLen; omega) (by omega) (by simp; omega) ?_; intro a2 c2 w7 ho2 hg2 hl2) | fail)
        have T7 := hidP (show w7.ownsRow w.heap.size 3 1 (.slice a2 (n + 1) c2) (n + 1) (icells (xs ++ [f.tag])) by have := ho2.out; rw [ic_snoc]; simpa using this)
        have B7 := hidP ((BR.out.trans ((HWR.out _).mono BR.out.size)).grown hg2.out (by simp; omega) (fun g hg => (ROW.out.lt g hg).1))
        clear ho2 hg2 hl2
        go_roundw
        case rel => exact ⟨1, 1, a2, c2, by go_num, rfl, by omega, by rw [HTK.out, List.length_append, ← HN.out]; rfl, by rw [HTK.out, List.length_append, ← HN.out]; exact T7.out, B7.out⟩
        case measure => (simp [intOf])
      · have hz := HT.out.z0 (by omega)
        subst hz
        have HTK := hidP (show T.take (0 + 1) = T.take 0 by rw [List.take_of_length_le (by omega), List.take_of_length_le (by omega)])
        obtain ⟨j0, j1, j2⟩ : (∀ w, _) ∧ (∀ w, _) ∧ (∀ w, _) := ⟨fun w => (ix3 (.pointer none) (.pointer p1) (.pointer p2) w).1, fun w => (ix3 (.pointer none) (.pointer p1) (.pointer p2) w).2.1, fun w => (ix3 (.pointer none) (.pointer p1) (.pointer p2) w).2.2⟩
        go_wp2_with fail
        go_roundw
        case rel => exact ⟨1, 1, a, c, by go_num, rfl, by omega, by rw [HTK.out], by rw [HTK.out]; exact ROW.out, BR.out⟩
        case measure => (simp [intOf])
    · obtain rfl : ki = 1 := by omega
      clear hki
      by_cases hk : 1 < T.length
      · obtain ⟨f, hf⟩ : ∃ f, T[1]? = some f := ⟨T[1], by simp [hk]⟩
        obtain ⟨pv, hp, hfac⟩ := TR.out 1 f hf
        simp at hp
        subst hp
        obtain ⟨fb, fo, he, c0, _⟩ := hfac
        injection he with he
        subst he
        have HTK := hidP (ic_take hf)
        obtain ⟨n, hn⟩ : ∃ n, n = ((T.take 1).map (·.tag)).length := ⟨_, rfl⟩
        obtain ⟨xs, hxs⟩ : ∃ xs, xs = (T.take 1).map (·.tag) := ⟨_, rfl⟩
        rw [← hxs] at ROW hln hn HTK ⊢
        rw [← hn] at ROW hln ⊢
        have HN := hidP hn
        clear hf hk hn hxs TR
        obtain ⟨j0, j1, j2⟩ : (∀ w, _) ∧ (∀ w, _) ∧ (∀ w, _) := ⟨fun w => (ix3 (.pointer p0) (.pointer (some ⟨fb, fo, none⟩)) (.pointer p2) w).1, fun w => (ix3 (.pointer p0) (.pointer (some ⟨fb, fo, none⟩)) (.pointer p2) w).2.1, fun w => (ix3 (.pointer p0) (.pointer (some ⟨fb, fo, none⟩)) (.pointer p2) w).2.2⟩
        go_wp2_with (first | (at_builtin; refine wpList_append_any (by rfl) (.tmp 13) (.tmp 18) 28 (by rfl) w.heap.size 3 _ 1 8 Tryz.underlying28 infoIM (by rfl) (by omega) _ n _ (by rfl) (own_bel ROW.out (HWR.out _)) (some ⟨_, 0, none⟩) 1 1 (by rfl) [.int .i64 f.tag] (by rfl) (fun e => by cases e) (news_new _ _ _ _ (by simp)) (by intro u hu; simp at hu; subst hu; rfl) (by unfold maxLen; omega) (by omega) (by simp; omega) ?_; intro a2 c2 w7 ho2 hg2 hl2) | fail)
        have T7 := hidP (show w7.ownsRow w.heap.size 3 1 (.slice a2 (n + 1) c2) (n + 1) (icells (xs ++ [f.tag])) by have := ho2.out; rw [ic_snoc]; simpa using this)
        have B7 := hidP ((BR.out.trans ((HWR.out _).mono BR.out.size)).grown hg2.out (by simp; omega) (fun g hg => (ROW.out.lt g hg).1))
        clear ho2 hg2 hl2
        go_roundw
        case rel => exact ⟨2, 2, a2, c2, by go_num, rfl, by omega, by rw [HTK.out, List.length_append, ← HN.out]; rfl, by rw [HTK.out, List.length_append, ← HN.out]; exact T7.out, B7.out⟩
        case measure => (simp [intOf])
      · have hz := HT.out.z1 (by omega)
        subst hz
        have HTK := hidP (show T.take (1 + 1) = T.take 1 by rw [List.take_of_length_le (by omega), List.take_of_length_le (by omega)])
        obtain ⟨j0, j1, j2⟩ : (∀ w, _) ∧ (∀ w, _) ∧ (∀ w, _) := ⟨fun w => (ix3 (.pointer p0) (.pointer none) (.pointer p2) w).1, fun w => (ix3 (.pointer p0) (.pointer none) (.pointer p2) w).2.1, fun w => (ix3 (.pointer p0) (.pointer none) (.pointer p2) w).2.2⟩
        go_wp2_with fail
        go_roundw
        case rel => exact ⟨2, 2, a, c, by go_num, rfl, by omega, by rw [HTK.out], by rw [HTK.out]; exact ROW.out, BR.out⟩
        case measure => (simp [intOf])
    · obtain rfl : ki = 2 := by omega
      clear hki
      by_cases hk : 2 < T.length
      · obtain ⟨f, hf⟩ : ∃ f, T[2]? = some f := ⟨T[2], by simp [hk]⟩
        obtain ⟨pv, hp, hfac⟩ := TR.out 2 f hf
        simp at hp
        subst hp
        obtain ⟨fb, fo, he, c0, _⟩ := hfac
        injection he with he
        subst he
        have HTK := hidP (ic_take hf)
        obtain ⟨n, hn⟩ : ∃ n, n = ((T.take 2).map (·.tag)).length := ⟨_, rfl⟩
        obtain ⟨xs, hxs⟩ : ∃ xs, xs = (T.take 2).map (·.tag) := ⟨_, rfl⟩
        rw [← hxs] at ROW hln hn HTK ⊢
        rw [← hn] at ROW hln ⊢
        have HN := hidP hn
        clear hf hk hn hxs TR
        obtain ⟨j0, j1, j2⟩ : (∀ w, _) ∧ (∀ w, _) ∧ (∀ w, _) := ⟨fun w => (ix3 (.pointer p0) (.pointer p1) (.pointer (some ⟨fb, fo, none⟩)) w).1, fun w => (ix3 (.pointer p0) (.pointer p1) (.pointer (some ⟨fb, fo, none⟩)) w).2.1, fun w => (ix3 (.pointer p0) (.pointer p1) (.pointer (some ⟨fb, fo, none⟩)) w).2.2⟩
        go_wp2_with (first | (at_builtin; refine wpList_append_any (by rfl) (.tmp 13) (.tmp 18) 28 (by rfl) w.heap.size 3 _ 1 8 Tryz.underlying28 infoIM (by rfl) (by omega) _ n _ (by rfl) (own_bel ROW.out (HWR.out _)) (some ⟨_, 0, none⟩) 1 1 (by rfl) [.int .i64 f.tag] (by rfl) (fun e => by cases e) (news_new _ _ _ _ (by simp)) (by intro u hu; simp at hu; subst hu; rfl) (by unfold maxLen; omega) (by omega) (by simp; omega) ?_; intro a2 c2 w7 ho2 hg2 hl2) | fail)
        have T7 := hidP (show w7.ownsRow w.heap.size 3 1 (.slice a2 (n + 1) c2) (n + 1) (icells (xs ++ [f.tag])) by have := ho2.out; rw [ic_snoc]; simpa using this)
        have B7 := hidP ((BR.out.trans ((HWR.out _).mono BR.out.size)).grown hg2.out (by simp; omega) (fun g hg => (ROW.out.lt g hg).1))
        clear ho2 hg2 hl2
        go_roundw
        case rel => exact ⟨3, 3, a2, c2, by go_num, rfl, by omega, by rw [HTK.out, List.length_append, ← HN.out]; rfl, by rw [HTK.out, List.length_append, ← HN.out]; exact T7.out, B7.out⟩
        case measure => (simp [intOf])
      · have hz := HT.out.z2 (by omega)
        subst hz
        have HTK := hidP (show T.take (2 + 1) = T.take 2 by rw [List.take_of_length_le (by omega), List.take_of_length_le (by omega)])
        obtain ⟨j0, j1, j2⟩ : (∀ w, _) ∧ (∀ w, _) ∧ (∀ w, _) := ⟨fun w => (ix3 (.pointer p0) (.pointer p1) (.pointer none) w).1, fun w => (ix3 (.pointer p0) (.pointer p1) (.pointer none) w).2.1, fun w => (ix3 (.pointer p0) (.pointer p1) (.pointer none) w).2.2⟩
        go_wp2_with fail
        go_roundw
        case rel => exact ⟨3, 3, a, c, by go_num, rfl, by omega, by rw [HTK.out], by rw [HTK.out]; exact ROW.out, BR.out⟩
        case measure => (simp [intOf])
    · obtain rfl : ki = 3 := by omega
      clear hki
      have HE := hidP (show T.take 3 = T from List.take_of_length_le hl3)
      rw [HE.out] at ROW ⊢
      go_wp2_with fail
      go_ret
      exact ⟨⟨a, c, by rw [List.length_map]; rfl, ROW.out⟩, BR.out⟩
end Go.Proofs.YtognpkdgphebeaaGreat

namespace Go.Proofs.YtognpkdgphebeaaGreat
open Go.RowKit

theorem wpOps_inRound {l n : Nat} {P : Program} {ops : Array Oper} {Q : Exit → Act → World → Prop} (hq : ¬ LetsOut Q) (hd : ∀ (i : Nat) (o : Oper), ops[i]? = some o → ∀ c, o.op ≠ .defer c) :
    ∀ (is : List Nat) (a : Act) (w : World), wpOps P ops Q is a w → wpOpsIn (Fence.wide.inRound l) n P ops Q is a w := by
  intro is
  induction is with
  | nil => intro a w h; exact h
  | cons i rest ih =>
    intro a w h
    unfold wpOps at h
    unfold wpOpsIn
    cases ho : ops[i]? with
    | none =>
      rw [ho] at h
      exact ih a w h
    | some o =>
      rw [ho] at h
      simp only at h ⊢
      split
      · rename_i hw
        rw [if_pos hw] at h
        have h : o.wp P a w (wpOps P ops Q rest) Q := h.resolve_right (fun h' => hq h'.2)
        refine ⟨fun _ _ => trivial, ?_⟩
        rw [Oper.semAt_plain _ _ _ (hd i o ho)]
        unfold Oper.wp at h
        generalize (execOp a.eval o).run P w = r at h ⊢
        cases r with
        | ok x w' =>
          cases x <;> simp only [Oper.upon, Oper.uponIn] at h ⊢ <;> first
            | exact ih _ _ h
            | exact h.elim
            | (refine ⟨fun hx => (by simp [Fence.wide] at hx), CallsIn.inRound l (callsIn_wide.2 (Calls.mono h ?_))⟩; intro e w'' he; cases e; exact ih _ _ he; exact he; exact he)
            | exact ⟨fun hx => (by simp [Fence.wide] at hx), fun c cs _ => let ⟨v, w'', r, s⟩ := h c cs; ⟨v, w'', ih _ _ r, stepsIn_wide.2 s⟩⟩
        | halt x w' => cases x <;> simp only [Oper.upon, Oper.uponIn] at h ⊢ <;> exact h
      · rename_i hw
        rw [if_neg hw] at h
        exact ⟨fun _ _ => trivial, ih _ _ h⟩
theorem wpInR_held {l n : Nat} {P : Program} {id : Nat} {ops : Array Oper} {Q : Exit → Act → World → Prop} {S : World → Prop} {a : Act} {w : World} (hq : ¬ LetsOut Q) (hd : ∀ (i : Nat) (o : Oper), ops[i]? = some o → ∀ c, o.op ≠ .defer c) (hm : P.follows .mixedOrders = true) (hS : S w.drew)
    (h : S w.drew → wpAnyH P .any ops Q S ops.size (Array.replicate ops.size false) a w.drew) : (Code.region id ops true).wpIn (Fence.wide.inRound l) n P Q a w :=
  wpIn_region_draw fun t => by
    simp only [Region.schedule, hm, Bool.true_or, if_true]
    exact wpOps_inRound hq hd _ _ _ (wpAny_sound ops.size t _ a _ (wpAny_of_held _ _ _ _ (h hS)))
theorem wpInR_calm {l n : Nat} {P : Program} {id : Nat} {ops : Array Oper} {Q : Exit → Act → World → Prop} {S : World → Prop} {a : Act} {w : World} (hq : ¬ LetsOut (NoPanic Q)) (hd : ∀ (i : Nat) (o : Oper), ops[i]? = some o → ∀ c, o.op ≠ .defer c) (hm : P.follows .mixedOrders = true) (hS : S w.drew)
    (h : S w.drew → wpAnyH P .any ops (NoPanic Q) S ops.size (Array.replicate ops.size false) a w.drew) : (Code.region id ops true).wpIn (Fence.wide.inRound l) n P Q a w :=
  wpIn_mono (wpInR_held hq hd hm hS h) (fun _ _ _ h => NoPanic.imp _ _ _ h)
end Go.Proofs.YtognpkdgphebeaaGreat

namespace Go.Proofs.YtognpkdgphebeaaGreat
open Go.RowKit Go.Maps

/-- Cells stay where they were; marks may turn. -/
structure Mkd (B : Nat) (W W' : World) : Prop where
  bel : Below B W W'
  cel : ∀ (k : Nat) c t fr, W.heap[k]? = some (.cells c t fr) → W'.heap[k]? = some (.cells c t fr)
theorem leaves_mkd {n : Nat} {fn : Func} {tmps : Array Value} {R : Ending → World → Prop} {B : Nat} : ∀ (Ds : List Nat) (W : World), DefOk B Ds W → (∀ W', Mkd B W W' → ∃ v, (results fn tmps).run Tryz.prog W' = .ok v W' ∧ R (.returned v) W') → LeavesInM Fence.wide n Tryz.prog fn tmps R (marksOf Ds) .returning W
  | [], W, _, h => h W ⟨Below.refl _ _, fun _ _ _ _ h => h⟩
  | D :: Ds, W, hd, h => by
    obtain ⟨hB, hD⟩ := hd.each D (by simp)
    have hnd := List.nodup_cons.1 hd.nodup
    have hbp : Mkd B W (W.putObj D (.deferred none)) := ⟨⟨rfl, rfl, rfl, by simp, fun k hk => World.putObj_heap_other (by omega)⟩, fun k c t fr hk => by
      rw [World.putObj_heap_other (fun e => by subst e; rw [hD] at hk; cases hk)]
      exact hk⟩
    refine ⟨by simp, .inl ⟨D, _, rfl, run_takeDeferred hD, leaves_mkd Ds _ ⟨hnd.2, fun D' hD' => ⟨(hd.each D' (by simp [hD'])).1, ?_⟩⟩ (fun W' hW' => h W' ⟨hbp.bel.trans hW'.bel, fun k c t fr hk => hW'.cel k c t fr (hbp.cel k c t fr hk)⟩)⟩⟩
    rw [World.putObj_heap_other (fun e => hnd.1 (by rw [← e]; exact hD'))]
    exact (hd.each D' (by simp [hD'])).2
theorem own_same {w w' : World} {base : Nat} {e : TypeId} {m : Nat} {v : Value} {n : Nat} {xs : List Value} (h : w.ownsRow base e m v n xs) (hk : ∀ (k : Nat) c, w.heap[k]? = some (.cells c e (0, 0)) → w'.heap[k]? = w.heap[k]?) : w'.ownsRow base e m v n xs :=
  owns_of_block h (fun g hg => by obtain ⟨c, hc⟩ := own_type h hg; exact hk g c hc)
theorem Iw.same {w w' : World} {b1 base : Nat} {a : Option Addr} {c : Nat} {L : List ItX} (h : Iw w b1 base a c L) (hk : ∀ (k : Nat) c t, (t = 123 ∨ t = 3) → w.heap[k]? = some (.cells c t (0, 0)) → w'.heap[k]? = w.heap[k]?) : Iw w' b1 base a c L :=
  ⟨own_same h.row (fun k c h => hk k c _ (.inl rfl) h), fun x hx => ⟨(h.all x hx).ts, own_same (h.all x hx).ot (fun k c h => hk k c _ (.inr rfl) h)⟩⟩
def itOf {wE : World} (i : Nat) (x : TkX wE) : It := ⟨(i : Int), (tkT x).map (·.tag)⟩
/-- The instantiations so far, in their box. -/
def Ins (w1 : World) (cb : Nat) (L : List It) (W : World) : Prop :=
  ∃ ia ic N, W.heap[cb]? = some (.cells #[.slice ia N.length ic] 56 (0, 0)) ∧ Iw W w1.heap.size w1.heap.size ia ic N ∧ N.map Prod.fst = L ∧ N.Pairwise (fun x y => Apart x.2 y.2)
theorem Ins.same {w1 : World} {cb : Nat} {L : List It} {W W' : World} (h : Ins w1 cb L W) (hk : ∀ (k : Nat) c t fr, W.heap[k]? = some (.cells c t fr) → W'.heap[k]? = some (.cells c t fr)) : Ins w1 cb L W' := by
  obtain ⟨ia, ic, N, h1, h2, h3, h4⟩ := h
  exact ⟨ia, ic, N, hk _ _ _ _ h1, h2.same (fun k c t _ h => (hk k c t _ h).trans h.symm), h3, h4⟩
theorem Ins.bel {w1 : World} {cb : Nat} {L : List It} {W W' : World} (h : Ins w1 cb L W) (hb : Below W.heap.size W W') : Ins w1 cb L W' :=
  h.same (fun k _ _ _ hk => (hb.block k (lt_of_block' hk)).trans hk)
/-- What the outer loop holds. -/
structure DH (wE w1 : World) (B cb : Nat) (Ds : List Nat) (L : List It) (W : World) : Prop where
  ins : Ins w1 cb L W
  lk : Lko wE.heap.size B w1 W
  def' : DefOk wE.heap.size Ds W
theorem DH.bel {wE w1 : World} {B cb : Nat} {Ds : List Nat} {L : List It} {W W' : World} (h : DH wE w1 B cb Ds L W) (hb : Below W.heap.size W W') : DH wE w1 B cb Ds L W' :=
  ⟨h.ins.bel hb, h.lk.trans (Lko.of_below hb), ⟨h.def'.nodup, fun D hD => ⟨(h.def'.each D hD).1, (hb.block D (Array.getElem?_eq_some_iff.1 (h.def'.each D hD).2).1).trans (h.def'.each D hD).2⟩⟩⟩
/-- What the inner loop holds. -/
structure DI (wE w1 : World) (B cb ib bb M i : Nat) (Ds : List Nat) (vp : Array Value) (L : List It) (pre : List (TkX wE)) (W : World) : Prop where
  ins : Ins w1 cb (L ++ pre.map (itOf i)) W
  lk : Lko wE.heap.size B w1 W
  idx : W.heap[ib]? = some (.cells #[.int .i64 (i : Int)] 3 (0, 0))
  box : W.heap[bb]? = some (.cells vp 88 (0, 0))
  def' : DefOk wE.heap.size Ds W
  low : ∀ D ∈ Ds, D < M
theorem DI.own {wE w1 : World} {B cb ib bb M i : Nat} {Ds : List Nat} {vp : Array Value} {L : List It} (h3 : w1.heap.size ≤ M) : OwnFrom M (DI wE w1 B cb ib bb M i Ds vp L) := by
  intro pre W W' row h hg hr
  have key : ∀ k, k < W.heap.size → (k < M ∨ ∃ c t fr, W.heap[k]? = some (.cells c t fr)) → W'.heap[k]? = W.heap[k]? := fun k hk hh => hg.block k hk (fun e => by
    obtain ⟨hM, o, ho, hc⟩ := hr k e.symm
    rcases hh with hh | ⟨c, t, fr, hh⟩
    · omega
    · rw [ho] at hh
      cases hh
      simp [Obj.isCells] at hc)
  refine ⟨h.ins.same (fun k c t fr hk => (key k (lt_of_block' hk) (.inr ⟨_, _, _, hk⟩)).trans hk), ⟨hg.os.trans h.lk.os, hg.tape.trans h.lk.tape, hg.output.trans h.lk.output, Nat.le_trans h.lk.size hg.size, fun g hgl h4 => (key g (Nat.lt_of_lt_of_le hgl h.lk.size) (.inl (by omega))).trans (h.lk.block g hgl h4)⟩, (key ib (lt_of_block' h.idx) (.inr ⟨_, _, _, h.idx⟩)).trans h.idx, (key bb (lt_of_block' h.box) (.inr ⟨_, _, _, h.box⟩)).trans h.box, ⟨h.def'.nodup, fun D hD => ⟨(h.def'.each D hD).1, ?_⟩⟩, h.low⟩
  have hW := (h.def'.each D hD).2
  exact (key D ((Array.getElem?_eq_some_iff.1 hW).1) (.inl (h.low D hD))).trans hW
theorem DI.bel {wE w1 : World} {B cb ib bb M i : Nat} {Ds : List Nat} {vp : Array Value} {L : List It} {pre : List (TkX wE)} {W W' : World} (h : DI wE w1 B cb ib bb M i Ds vp L pre W) (hb : Below W.heap.size W W') : DI wE w1 B cb ib bb M i Ds vp L pre W' :=
  ⟨h.ins.bel hb, h.lk.trans (Lko.of_below hb), (hb.block _ (lt_of_block' h.idx)).trans h.idx, (hb.block _ (lt_of_block' h.box)).trans h.box, ⟨h.def'.nodup, fun D hD => ⟨(h.def'.each D hD).1, (hb.block D (Array.getElem?_eq_some_iff.1 (h.def'.each D hD).2).1).trans (h.def'.each D hD).2⟩⟩, h.low⟩
theorem keeps_bel {W W' : World} (hb : Below W.heap.size W W') : KeepsOthers W W' := ⟨hb.size, fun k _ hk _ => (hb.block k (Array.getElem?_eq_some_iff.1 hk).1).trans hk⟩
/-- One instantiation more. -/
theorem DI.round {wE w1 : World} {B cb ib bb M i : Nat} {Ds : List Nat} {vp : Array Value} {L : List It} {pre : List (TkX wE)} {W W5 W8 : World} {x : TkX wE} {ia ta a8 : Option Addr} {ic tc c8 : Nat} {N : List ItX} {tg : List Int} (htg : tg = (tkT x).map (·.tag)) (h : DI wE w1 B cb ib bb M i Ds vp L pre W)
    (h1 : W.heap[cb]? = some (.cells #[.slice ia N.length ic] 56 (0, 0))) (h2 : Iw W w1.heap.size w1.heap.size ia ic N) (h3 : N.map Prod.fst = L ++ pre.map (itOf i)) (h4 : N.Pairwise (fun x y => Apart x.2 y.2))
    (hb : Below W.heap.size W W5) (hT : W5.ownsRow W.heap.size 3 1 (.slice ta tg.length tc) tg.length (icells tg))
    (hO : W8.ownsRow w1.heap.size 123 2 (.slice a8 (N.length + 1) c8) (N.length + 1) (N.flatMap itCells ++ itCells (⟨(i : Int), tg⟩, .slice ta tg.length tc))) (hg : W5.grownBy W8 (Value.slice ia N.length ic).ownBlock)
    (e1 : wE.heap.size ≤ cb) (e2 : cb < B) (e3 : B ≤ w1.heap.size) (n1 : ib ≠ cb) (n2 : bb ≠ cb) :
    KeepsOthers W (W8.setCell ⟨cb, 0, none⟩ (.slice a8 (N.length + 1) c8)) ∧ Kq cb w1.heap.size M W (W8.setCell ⟨cb, 0, none⟩ (.slice a8 (N.length + 1) c8)) ∧ DI wE w1 B cb ib bb M i Ds vp L (pre ++ [x]) (W8.setCell ⟨cb, 0, none⟩ (.slice a8 (N.length + 1) c8)) := by
  subst htg
  have ht : Turned W8 (W8.setCell ⟨cb, 0, none⟩ (.slice a8 (N.length + 1) c8)) cb := Turned.setCells [_] 0 W8 cb
  have R5 := h2.bel hb
  have hcb := lt_of_block' h1
  have hne : (Value.slice ia N.length ic).ownBlock ≠ some cb := fun e => by have := (h2.row.lt cb e).1; omega
  have h8 : W8.heap[cb]? = some (.cells #[.slice ia N.length ic] 56 (0, 0)) := (hg.block cb (Nat.lt_of_lt_of_le hcb hb.size) (Ne.symm hne)).trans ((hb.block cb hcb).trans h1)
  have hK : Kq cb w1.heap.size M W (W8.setCell ⟨cb, 0, none⟩ (.slice a8 (N.length + 1) c8)) :=
    ⟨(ht.os.trans hg.os).trans hb.os, (ht.tape.trans hg.tape).trans hb.tape, (ht.output.trans hg.output).trans hb.output, Nat.le_trans (Nat.le_trans hb.size hg.size) (Nat.le_of_eq ht.size.symm), fun k hk hkc hc => by
      have hrow : some k ≠ (Value.slice ia N.length ic).ownBlock := fun e => by
        rcases hc with hc | ⟨_, hc⟩
        · have := (h2.row.lt k e.symm).1
          omega
        · obtain ⟨c, hcc⟩ := own_type h2.row e.symm
          exact hc c _ hcc
      exact (ht.block k hkc).trans ((hg.block k (Nat.lt_of_lt_of_le hk hb.size) hrow).trans (hb.block k hk))⟩
  have hX : ItP W5 w1.heap.size (itOf i x, .slice ta ((tkT x).map (·.tag)).length tc) := ⟨⟨ta, tc, rfl⟩, owns_base hT h.lk.size⟩
  have h9 := Iw.snoc R5 hX hO hg
  refine ⟨(keeps_bel hb).trans ((KeepsOthers.of_grownBy hg (fun j o hj ho => ?_)).trans (KeepsOthers.setCell _ _ _)), hK, ⟨?_, hK.lko h.lk (Nat.le_refl _) e1 e2, hK.box h.idx n1 (by decide), hK.box h.box n2 (by decide), ⟨h.def'.nodup, fun D hD => ⟨(h.def'.each D hD).1, ?_⟩⟩, h.low⟩⟩
  · obtain ⟨c, hc⟩ := own_type R5.row hj
    rw [hc] at ho
    cases ho
    rfl
  · refine ⟨a8, c8, N ++ [(itOf i x, .slice ta ((tkT x).map (·.tag)).length tc)], ?_, ?_, ?_, ?_⟩
    · have h' := heap_setCell_same (i := 0) h8 (.slice a8 (N.length + 1) c8)
      rw [List.length_append]
      simpa using h'
    · exact h9.same (fun k c t htt hk => ht.block k (fun e => by subst e; rw [h8] at hk; injection hk with hk; injection hk with _ hk _; rcases htt with rfl | rfl <;> exact absurd hk (by decide)))
    · rw [List.map_append, h3, List.map_append, List.append_assoc]
      rfl
    · rw [List.pairwise_append]
      refine ⟨h4, by simp, fun y hy z hz => ?_⟩
      obtain rfl := List.mem_singleton.1 hz
      intro g hgy hgz
      have i1 := ((h2.all y hy).ot.lt g hgy).2
      have i2 := (hT.lt g hgz).1
      omega
  · have hW := (h.def'.each D hD).2
    exact (hK.block D ((Array.getElem?_eq_some_iff.1 hW).1) (fun e => by subst e; rw [h1] at hW; cases hW) (.inr ⟨.inl (h.low D hD), fun c fr e => by rw [hW] at e; cases e⟩)).trans hW
/-- The box of a loop variable: a token. -/
def TBx (wE : World) (mk : Value → Value → Act) (x : TkX wE) (a : Act) (W : World) : Prop := ∃ tb, W.heap[tb]? = some (.cells #[.pointer x.1.1.1, .pointer x.1.1.2.1, .pointer x.1.1.2.2] 91 (0, 0)) ∧ a = mk (.pointer (some ⟨tb, 0, none⟩)) (tkv x.1.1)
theorem TokX.below {w w' : World} {p0 p1 p2 : Option Addr} {T : List F} (h : TokX w p0 p1 p2 T) (hb : Below w.heap.size w w') : TokX w' p0 p1 p2 T := ⟨h.tok.below hb, h.z0, h.z1, h.z2, h.le⟩
theorem TBx.own {wE : World} {M : Nat} {mk : Value → Value → Act} (x : TkX wE) (a : Act) : OwnFrom M (fun (_ : Unit) W => TBx wE mk x a W) := by
  rintro _ W W' row ⟨tb, h2, h3⟩ hg hr
  refine ⟨tb, (hg.block tb (lt_of_block' h2) (fun e => ?_)).trans h2, h3⟩
  obtain ⟨_, o, ho, hc⟩ := hr tb e.symm
  rw [h2] at ho
  cases ho
  simp [Obj.isCells] at hc
theorem CpPost.nil {L : List It} {w w' : World} (hL : L = []) (hb : Below w.heap.size w w') : CpPost L w (.returned (.slice none 0 0)) w' := by
  subst hL
  exact ⟨⟨none, 0, [], rfl, Iw.nil _ _ _, rfl, List.Pairwise.nil⟩, hb⟩
end Go.Proofs.YtognpkdgphebeaaGreat

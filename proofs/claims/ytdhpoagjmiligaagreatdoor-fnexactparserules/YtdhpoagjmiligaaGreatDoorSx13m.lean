/-
  OUR OWN TEXT. The program's parser: a look at the next word, a word taken.
-/
import Derived.Test.YtdhpoagjmiligaaGreatDoorKaq
namespace Go.Proofs.YtdhpoagjmiligaaGreatDoor
open Go.RowKit
attribute [local go_sem ↓] Go.wp_at_zero Go.wp_at_succ

/-- The parser in its box, ahead of the words l; R: its other cells. -/
structure PSt (w : World) (pb : Nat) (src : Bs) (a : Option Addr) (c : Nat) (l : List Wd) (R : List Value) : Prop where
  sc : ∃ k : Nat, ScAt w pb 0 62 (.slice a src.length c :: .int .i64 (k : Int) :: R).toArray src a c l
  env : EnvAt w pb
theorem ScAt.below {w w' : World} {sb so : Nat} {t : TypeId} {cs : Array Value} {src : Bs} {a : Option Addr} {c : Nat} {l : List Wd} (h : ScAt w sb so t cs src a c l) (hb : Below w.heap.size w w') : ScAt w' sb so t cs src a c l :=
  ⟨(hb.block sb (lt_of_block' h.blk)).trans h.blk, h.src0, h.cap, h.len, h.bys.below hb, h.far, h.pos⟩
theorem PSt.lt {w : World} {pb : Nat} {src : Bs} {a : Option Addr} {c : Nat} {l : List Wd} {R : List Value} (h : PSt w pb src a c l R) : pb < w.heap.size := by
  obtain ⟨k, hs⟩ := h.sc
  exact lt_of_block' hs.blk
theorem PSt.below {w w' : World} {pb : Nat} {src : Bs} {a : Option Addr} {c : Nat} {l : List Wd} {R : List Value} (h : PSt w pb src a c l R) (hb : Below w.heap.size w w') : PSt w' pb src a c l R := by
  obtain ⟨k, hs⟩ := h.sc
  exact ⟨⟨k, hs.below hb⟩, h.env.keep (hb.mono (Nat.le_of_lt h.lt))⟩
/-- What a look leaves. -/
def PkPost (w : World) (r : Px Wd) (e : Ending) (w' : World) : Prop := Below w.heap.size w w' ∧ match r with
  | .error f => e = fltE f
  | .ok (x, _) => e = .returned (pwV (pkW x) x.pos (ptW x) x.num)
/-- What reading leaves. -/
def PPost {α : Type} (w : World) (pb : Nat) (src : Bs) (a : Option Addr) (c : Nat) (R : List Value) (Q : α → Ending → World → Prop) (r : Px α) (e : Ending) (w' : World) : Prop := MkO (some pb) w w' ∧ match r with
  | .error f => e = fltE f
  | .ok (x, l) => Q x e w' ∧ PSt w' pb src a c l R
set_option maxHeartbeats 1600000 in
theorem peek_any (w : World) (pb k : Nat) (src : Bs) (a : Option Addr) (c : Nat) (l : List Wd) (R : List Value) (hs : ScAt w pb 0 62 (.slice a src.length c :: .int .i64 (k : Int) :: R).toArray src a c l) (hE : EnvAt w pb) : Calls Tryz.prog 85 #[.agg #[.slice a src.length c, .int .i64 (k : Int)]] w (PkPost w (nextW l)) := by
  have hpb : pb < w.heap.size := lt_of_block' hs.blk
  have HS := hidX hs
  have HE := hidX hE
  clear hs hE
  go_enter Tryz.func85, Tryz.ntmps85
  go_upto_region 1 with fail
  refine lift_alloc ?_
  intro w2 hW2 hq2
  have hB0 : Below w.heap.size w (w.alloc (.cells #[.slice a src.length c, .int .i64 (k : Int)] 58)) := (Below.refl _ _).alloc (Nat.le_refl _) _
  have hB2 : Below w.heap.size w w2 := hB0.trans (hW2.mono (by simp))
  have hsz : (w.alloc (.cells #[.slice a src.length c, .int .i64 (k : Int)] 58)).heap.size = w.heap.size + 1 := by simp
  have hbx : w2.heap[w.heap.size]? = some (.cells #[.slice a src.length c, .int .i64 (k : Int)] 58 (0, 0)) := (hW2.block w.heap.size (by rw [hsz]; omega)).trans (heap_alloc_new _ _)
  rw [hsz] at hq2
  obtain ⟨k', hk', e', hw'⟩ := HS.out.pos
  have hs2 : ScAt w2 w.heap.size 0 58 #[.slice a src.length c, .int .i64 (k : Int)] src a c l := by
    refine ⟨hbx, rfl, HS.out.cap, HS.out.len, HS.out.bys.below hB2, fun b o e => Nat.lt_trans (HS.out.far b o e) hpb, k, ?_, rfl, ?_⟩
    · simp at e'
      omega
    · simp at e'
      have : k' = k := by omega
      rw [← this]
      exact hw'
  have hE2 : EnvAt w2 w.heap.size := ⟨HE.out.err.keep HE.out.g2 (hB2.mono (Nat.le_of_lt hpb)), HE.out.tests.keep HE.out.g1 (hB2.mono (Nat.le_of_lt hpb)), Nat.lt_trans HE.out.g1 hpb, Nat.lt_trans HE.out.g2 hpb⟩
  have HNX := hidX (next_any w2 w.heap.size 0 58 #[.slice a src.length c, .int .i64 (k : Int)] src a c l hs2 hE2)
  have HB2 := hidX hB2
  have hl2 : w.heap.size + 1 < w2.heap.size := lt_of_block' hq2
  obtain ⟨Z, hZ⟩ : ∃ Z : Array Value, Z = #[.int .i32 0, .int .i64 0, .string ⟨#[]⟩, .int .i64 0] := ⟨_, rfl⟩
  rw [← hZ] at hq2
  have hZs : Z.size = 4 := by rw [hZ]; rfl
  clear hW2 hB0 hB2 hbx hs2 hE2 hsz e' hw' hZ hk'
  cases hr : nextW l with
  | error f =>
    rw [hr] at HNX
    go_wp2_with (first | (go_at_call 103; refine HNX.out.mono ?_; rintro e w3 ⟨hm3, rfl⟩; unfold fltE) | fail)
    exact ⟨rfl, HB2.out.trans (hm3.below (Nat.le_of_lt (by omega)) (fun g e => by cases e; exact Nat.le_refl _)), (by first | rfl | (rw [hr]; rfl))⟩
  | ok p =>
    obtain ⟨x, r⟩ := p
    rw [hr] at HNX
    go_wp2_with (first | (go_at_call 103; refine HNX.out.mono ?_; rintro e w3 ⟨hm3, rfl, _⟩; have hq3 := (hm3.block (w.heap.size + 1) hl2 (by simp)).trans hq2) | (refine wpList_store_blk (by rfl) 116 (.tmp 2) (.tmp 3) (by rfl) (w.heap.size + 1) (pwL (pkW x) x.pos (ptW x) x.num) (by rfl) (by rfl) _ 116 hq3 hZs infoPW (pwL_one _ _ _ _) ?_; intro w4 hb4 ht4) | fail)
    have hld := run_loadVar_mid (P := Tryz.prog) w4 (w.heap.size + 1) 0 116 (pwL (pkW x) x.pos (ptW x) x.num) _ (range_blk hb4.out) Tryz.underlying116 rfl infoPW
    have hB3 := HB2.out.trans (hm3.below (Nat.le_of_lt (by omega)) (fun g e => by cases e; exact Nat.le_refl _))
    go_frame
    exact bodyPost_ret (v := .agg (pwL (pkW x) x.pos (ptW x) x.num).toArray) (by simp [results, Tryz.results85, asAddr, hld]) rfl ⟨hB3.trans (ht4.out.below (by omega)), (by first | rfl | (rw [hr]; rfl))⟩
/-- The scanner's two cells, as one. -/
theorem ScAt.range {w : World} {pb k : Nat} {src : Bs} {a : Option Addr} {c : Nat} {l : List Wd} {R : List Value} (h : ScAt w pb 0 62 (.slice a src.length c :: .int .i64 (k : Int) :: R).toArray src a c l) : w.rangeAt pb 0 [.slice a src.length c, .int .i64 (k : Int)] := by
  intro j v hj
  rcases j with _ | _ | j
  · simp at hj
    subst hj
    simp [World.cell?, h.blk]
  · simp at hj
    subst hj
    simp [World.cell?, h.blk]
  · simp at hj
theorem wfield0 (x0 x1 x2 x3 : Value) (w : World) : (Instr.field 116 (.agg #[x0, x1, x2, x3]) 0).run Tryz.prog w = .ok x0 w := by kernel_rfl
theorem wfield2 (x0 x1 x2 x3 : Value) (w : World) : (Instr.field 116 (.agg #[x0, x1, x2, x3]) 2).run Tryz.prog w = .ok x2 w := by kernel_rfl
theorem wfield3 (x0 x1 x2 x3 : Value) (w : World) : (Instr.field 116 (.agg #[x0, x1, x2, x3]) 3).run Tryz.prog w = .ok x3 w := by kernel_rfl
theorem infoSc : (Tryz.prog.info? 58).map (·.size) = some 2 := by kernel_rfl
set_option maxRecDepth 100000 in
set_option maxHeartbeats 1600000 in
theorem ahead_any (w : World) (pb : Nat) (src : Bs) (a : Option Addr) (c : Nat) (l : List Wd) (R : List Value) (kd : Int) (h : PSt w pb src a c l R) : Calls Tryz.prog 48 #[.pointer (some ⟨pb, 0, none⟩), .int .i32 kd] w fun e w' => Below w.heap.size w w' ∧ match nextW l with
    | .error f => e = fltE f
    | .ok (x, _) => e = .returned (.bool (decide (pkW x = kd))) := by
  have HE := hidX h.env
  obtain ⟨k, hs⟩ := h.sc
  have HPK := hidX (peek_any w pb k src a c l R hs HE.out)
  have HRG := hidX hs.range
  clear h hs
  cases hr : nextW l with
  | error f =>
    rw [hr] at HPK
    go_enter Tryz.func48, Tryz.ntmps48
    go_wp2_with (first | (refine wpList_load_mid (by rfl) 58 (.tmp 7) (by rfl) pb 0 (by rfl) [.slice a src.length c, .int .i64 (k : Int)] _ HRG.out Tryz.underlying58 rfl infoSc ?_) | (go_at_call 85; refine HPK.out.mono ?_; rintro e w3 ⟨hb3, rfl⟩; unfold fltE) | fail)
    exact ⟨rfl, hb3, rfl⟩
  | ok p =>
    obtain ⟨x, r⟩ := p
    rw [hr] at HPK
    obtain ⟨X, hX⟩ : ∃ X, X = pkW x := ⟨_, rfl⟩
    show Calls Tryz.prog 48 #[.pointer (some ⟨pb, 0, none⟩), .int .i32 kd] w fun e w' => Below w.heap.size w w' ∧ e = .returned (.bool (decide (pkW x = kd)))
    rw [← hX]
    replace HPK : Hid (Calls Tryz.prog 85 #[.agg #[.slice a src.length c, .int .i64 (k : Int)]] w fun e w' => Below w.heap.size w w' ∧ e = .returned (.agg #[.int .i32 X, .int .i64 (x.pos : Int), .string (mkS (ptW x)), .int .i64 x.num])) := by
      rw [hX]
      exact HPK
    clear hX
    have hfd := wfield0
    go_enter Tryz.func48, Tryz.ntmps48
    go_wp2_with (first | (refine wpList_load_mid (by rfl) 58 (.tmp 7) (by rfl) pb 0 (by rfl) [.slice a src.length c, .int .i64 (k : Int)] _ HRG.out Tryz.underlying58 rfl infoSc ?_) | (go_at_call 85; refine HPK.out.mono ?_; rintro e w3 ⟨hb3, rfl⟩) | fail)
    go_ret
    exact ⟨hb3, ret_bool (by rw [Bool.eq_iff_iff, beq_iff_eq, decide_eq_true_iff])⟩
end Go.Proofs.YtdhpoagjmiligaaGreatDoor

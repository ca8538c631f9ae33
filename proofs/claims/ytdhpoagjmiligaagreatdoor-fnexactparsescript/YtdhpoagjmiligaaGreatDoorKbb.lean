/-
  OUR OWN TEXT. Sx13, Sx14, Sx15, Sx16, one behind the other.
-/
import Derived.Test.YtdhpoagjmiligaaGreatDoorKba
namespace Go.Proofs.YtdhpoagjmiligaaGreatDoor
open Go.RowKit
attribute [local go_sem ↓] Go.wp_at_zero Go.wp_at_succ

/-- The parser in its box, ahead of the words l; R: its other cells. -/
structure PSt (w : World) (pb : Nat) (src : Bs) (a : Option Addr) (c : Nat) (l : List Wd) (R : List Value) : Prop where
  sc : ∃ k : Nat, ScAt w pb 0 62 (.slice a src.length c :: .int .i64 (k : Int) :: R).toArray src a c l
  env : EnvAt w pb
theorem ScAt.below {w w' : World} {sb so : Nat} {t : TypeId} {cs : Array Value} {src : Bs} {a : Option Addr} {c : Nat} {l : List Wd} (h : ScAt w sb so t cs src a c l) (hb : Below w.heap.size w w') : ScAt w' sb so t cs src a c l :=
  ⟨(hb.block sb (lt_of_block' h.blk)).trans h.blk, h.src0, h.cap, h.len, h.bys.below hb, h.far, h.pos⟩
theorem PSt.lt {w : World} {pb : Nat} {src : Bs} {a : Option Addr} {c : Nat} {l : List Wd} {R : List Value} (h : PSt w pb src a c l R) : pb < w.heap.size := by
  obtain ⟨k, hs⟩ := h.sc
  exact lt_of_block' hs.blk
theorem PSt.below {w w' : World} {pb : Nat} {src : Bs} {a : Option Addr} {c : Nat} {l : List Wd} {R : List Value} (h : PSt w pb src a c l R) (hb : Below w.heap.size w w') : PSt w' pb src a c l R := by
  obtain ⟨k, hs⟩ := h.sc
  exact ⟨⟨k, hs.below hb⟩, h.env.keep (hb.mono (Nat.le_of_lt h.lt))⟩
/-- What a look leaves. -/
def PkPost (w : World) (r : Px Wd) (e : Ending) (w' : World) : Prop := Below w.heap.size w w' ∧ match r with
  | .error f => e = fltE f
  | .ok (x, _) => e = .returned (pwV (pkW x) x.pos (ptW x) x.num)
/-- What reading leaves. -/
def PPost {α : Type} (w : World) (pb : Nat) (src : Bs) (a : Option Addr) (c : Nat) (R : List Value) (Q : α → Ending → World → Prop) (r : Px α) (e : Ending) (w' : World) : Prop := MkO (some pb) w w' ∧ match r with
  | .error f => e = fltE f
  | .ok (x, l) => Q x e w' ∧ PSt w' pb src a c l R
set_option maxHeartbeats 1600000 in
theorem peek_any (w : World) (pb k : Nat) (src : Bs) (a : Option Addr) (c : Nat) (l : List Wd) (R : List Value) (hs : ScAt w pb 0 62 (.slice a src.length c :: .int .i64 (k : Int) :: R).toArray src a c l) (hE : EnvAt w pb) : Calls Tryz.prog 85 #[.agg #[.slice a src.length c, .int .i64 (k : Int)]] w (PkPost w (nextW l)) := by
  have hpb : pb < w.heap.size := lt_of_block' hs.blk
  have HS := hidX hs
  have HE := hidX hE
  clear hs hE
  go_enter Tryz.func85, Tryz.ntmps85
  go_upto_region 1 with fail
  refine lift_alloc ?_
  intro w2 hW2 hq2
  have hB0 : Below w.heap.size w (w.alloc (.cells #[.slice a src.length c, .int .i64 (k : Int)] 58)) := (Below.refl _ _).alloc (Nat.le_refl _) _
  have hB2 : Below w.heap.size w w2 := hB0.trans (hW2.mono (by simp))
  have hsz : (w.alloc (.cells #[.slice a src.length c, .int .i64 (k : Int)] 58)).heap.size = w.heap.size + 1 := by simp
  have hbx : w2.heap[w.heap.size]? = some (.cells #[.slice a src.length c, .int .i64 (k : Int)] 58 (0, 0)) := (hW2.block w.heap.size (by rw [hsz]; omega)).trans (heap_alloc_new _ _)
  rw [hsz] at hq2
  obtain ⟨k', hk', e', hw'⟩ := HS.out.pos
  have hs2 : ScAt w2 w.heap.size 0 58 #[.slice a src.length c, .int .i64 (k : Int)] src a c l := by
    refine ⟨hbx, rfl, HS.out.cap, HS.out.len, HS.out.bys.below hB2, fun b o e => Nat.lt_trans (HS.out.far b o e) hpb, k, ?_, rfl, ?_⟩
    · simp at e'
      omega
    · simp at e'
      have : k' = k := by omega
      rw [← this]
      exact hw'
  have hE2 : EnvAt w2 w.heap.size := ⟨HE.out.err.keep HE.out.g2 (hB2.mono (Nat.le_of_lt hpb)), HE.out.tests.keep HE.out.g1 (hB2.mono (Nat.le_of_lt hpb)), Nat.lt_trans HE.out.g1 hpb, Nat.lt_trans HE.out.g2 hpb⟩
  have HNX := hidX (next_any w2 w.heap.size 0 58 #[.slice a src.length c, .int .i64 (k : Int)] src a c l hs2 hE2)
  have HB2 := hidX hB2
  have hl2 : w.heap.size + 1 < w2.heap.size := lt_of_block' hq2
  obtain ⟨Z, hZ⟩ : ∃ Z : Array Value, Z = #[.int .i32 0, .int .i64 0, .string ⟨#[]⟩, .int .i64 0] := ⟨_, rfl⟩
  rw [← hZ] at hq2
  have hZs : Z.size = 4 := by rw [hZ]; rfl
  clear hW2 hB0 hB2 hbx hs2 hE2 hsz e' hw' hZ hk'
  cases hr : nextW l with
  | error f =>
    rw [hr] at HNX
    go_wp2_with (first | (go_at_call 103; refine HNX.out.mono ?_; rintro e w3 ⟨hm3, rfl⟩; unfold fltE) | fail)
    exact ⟨rfl, HB2.out.trans (hm3.below (Nat.le_of_lt (by omega)) (fun g e => by cases e; exact Nat.le_refl _)), (by first | rfl | (rw [hr]; rfl))⟩
  | ok p =>
    obtain ⟨x, r⟩ := p
    rw [hr] at HNX
    go_wp2_with (first | (go_at_call 103; refine HNX.out.mono ?_; rintro e w3 ⟨hm3, rfl, _⟩; have hq3 := (hm3.block (w.heap.size + 1) hl2 (by simp)).trans hq2) | (refine wpList_store_blk (by rfl) 116 (.tmp 2) (.tmp 3) (by rfl) (w.heap.size + 1) (pwL (pkW x) x.pos (ptW x) x.num) (by rfl) (by rfl) _ 116 hq3 hZs infoPW (pwL_one _ _ _ _) ?_; intro w4 hb4 ht4) | fail)
    have hld := run_loadVar_mid (P := Tryz.prog) w4 (w.heap.size + 1) 0 116 (pwL (pkW x) x.pos (ptW x) x.num) _ (range_blk hb4.out) Tryz.underlying116 rfl infoPW
    have hB3 := HB2.out.trans (hm3.below (Nat.le_of_lt (by omega)) (fun g e => by cases e; exact Nat.le_refl _))
    go_frame
    exact bodyPost_ret (v := .agg (pwL (pkW x) x.pos (ptW x) x.num).toArray) (by simp [results, Tryz.results85, asAddr, hld]) rfl ⟨hB3.trans (ht4.out.below (by omega)), (by first | rfl | (rw [hr]; rfl))⟩
/-- The scanner's two cells, as one. -/
theorem ScAt.range {w : World} {pb k : Nat} {src : Bs} {a : Option Addr} {c : Nat} {l : List Wd} {R : List Value} (h : ScAt w pb 0 62 (.slice a src.length c :: .int .i64 (k : Int) :: R).toArray src a c l) : w.rangeAt pb 0 [.slice a src.length c, .int .i64 (k : Int)] := by
  intro j v hj
  rcases j with _ | _ | j
  · simp at hj
    subst hj
    simp [World.cell?, h.blk]
  · simp at hj
    subst hj
    simp [World.cell?, h.blk]
  · simp at hj
theorem wfield0 (x0 x1 x2 x3 : Value) (w : World) : (Instr.field 116 (.agg #[x0, x1, x2, x3]) 0).run Tryz.prog w = .ok x0 w := by kernel_rfl
theorem wfield3 (x0 x1 x2 x3 : Value) (w : World) : (Instr.field 116 (.agg #[x0, x1, x2, x3]) 3).run Tryz.prog w = .ok x3 w := by kernel_rfl
theorem infoSc : (Tryz.prog.info? 58).map (·.size) = some 2 := by kernel_rfl
set_option maxRecDepth 100000 in
set_option maxHeartbeats 1600000 in
theorem ahead_any (w : World) (pb : Nat) (src : Bs) (a : Option Addr) (c : Nat) (l : List Wd) (R : List Value) (kd : Int) (h : PSt w pb src a c l R) : Calls Tryz.prog 48 #[.pointer (some ⟨pb, 0, none⟩), .int .i32 kd] w fun e w' => Below w.heap.size w w' ∧ match nextW l with
    | .error f => e = fltE f
    | .ok (x, _) => e = .returned (.bool (decide (pkW x = kd))) := by
  have HE := hidX h.env
  obtain ⟨k, hs⟩ := h.sc
  have HPK := hidX (peek_any w pb k src a c l R hs HE.out)
  have HRG := hidX hs.range
  clear h hs
  cases hr : nextW l with
  | error f =>
    rw [hr] at HPK
    go_enter Tryz.func48, Tryz.ntmps48
    go_wp2_with (first | (refine wpList_load_mid (by rfl) 58 (.tmp 7) (by rfl) pb 0 (by rfl) [.slice a src.length c, .int .i64 (k : Int)] _ HRG.out Tryz.underlying58 rfl infoSc ?_) | (go_at_call 85; refine HPK.out.mono ?_; rintro e w3 ⟨hb3, rfl⟩; unfold fltE) | fail)
    exact ⟨rfl, hb3, rfl⟩
  | ok p =>
    obtain ⟨x, r⟩ := p
    rw [hr] at HPK
    obtain ⟨X, hX⟩ : ∃ X, X = pkW x := ⟨_, rfl⟩
    show Calls Tryz.prog 48 #[.pointer (some ⟨pb, 0, none⟩), .int .i32 kd] w fun e w' => Below w.heap.size w w' ∧ e = .returned (.bool (decide (pkW x = kd)))
    rw [← hX]
    replace HPK : Hid (Calls Tryz.prog 85 #[.agg #[.slice a src.length c, .int .i64 (k : Int)]] w fun e w' => Below w.heap.size w w' ∧ e = .returned (.agg #[.int .i32 X, .int .i64 (x.pos : Int), .string (mkS (ptW x)), .int .i64 x.num])) := by
      rw [hX]
      exact HPK
    clear hX
    have hfd := wfield0
    go_enter Tryz.func48, Tryz.ntmps48
    go_wp2_with (first | (refine wpList_load_mid (by rfl) 58 (.tmp 7) (by rfl) pb 0 (by rfl) [.slice a src.length c, .int .i64 (k : Int)] _ HRG.out Tryz.underlying58 rfl infoSc ?_) | (go_at_call 85; refine HPK.out.mono ?_; rintro e w3 ⟨hb3, rfl⟩) | fail)
    go_ret
    exact ⟨hb3, ret_bool (by rw [Bool.eq_iff_iff, beq_iff_eq, decide_eq_true_iff])⟩
end Go.Proofs.YtdhpoagjmiligaaGreatDoor

namespace Go.Proofs.YtdhpoagjmiligaaGreatDoor
open Go.RowKit
attribute [local go_sem ↓] Go.wp_at_zero Go.wp_at_succ

/-- A word as the walk meets it. -/
def pwA (x : Wd) : Value := .agg #[.int .i32 (pkW x), .int .i64 (x.pos : Int), .string (mkS (ptW x)), .int .i64 x.num]
def Rw (x : Wd) (e : Ending) (_ : World) : Prop := e = .returned (pwV (pkW x) x.pos (ptW x) x.num)
theorem PPost.err {α : Type} {w w' : World} {pb : Nat} {src : Bs} {a : Option Addr} {c : Nat} {R : List Value} {Q : α → Ending → World → Prop} {r : Px α} {f : Flt} (hr : r = .error f) (hm : MkO (some pb) w w') : PPost w pb src a c R Q r (fltE f) w' := by
  subst hr
  exact ⟨hm, rfl⟩
theorem PPost.good {α : Type} {w w' : World} {pb : Nat} {src : Bs} {a : Option Addr} {c : Nat} {R : List Value} {Q : α → Ending → World → Prop} {r : Px α} {x : α} {l : List Wd} {e : Ending} (hr : r = .ok (x, l)) (hm : MkO (some pb) w w') (hq : Q x e w') (hp : PSt w' pb src a c l R) : PPost w pb src a c R Q r e w' := by
  subst hr
  exact ⟨hm, hq, hp⟩
theorem PSt.turned {w w' : World} {pb g : Nat} {src : Bs} {a : Option Addr} {c : Nat} {l : List Wd} {R : List Value} (h : PSt w pb src a c l R) (ht : Turned w w' g) (hg : pb < g) : PSt w' pb src a c l R := by
  obtain ⟨k, hs⟩ := h.sc
  have hb : Below g w w' := ht.below (Nat.le_refl _)
  exact ⟨⟨k, (hb.block pb hg).trans hs.blk, hs.src0, hs.cap, hs.len, hs.bys.keep (fun b o e => Nat.lt_trans (hs.far b o e) hg) hb, hs.far, hs.pos⟩, h.env.keep (hb.mono (Nat.le_of_lt hg))⟩
/-- A word in its box: its cells behind a name, its kind behind another. -/
theorem wd_box {w : World} {b : Nat} {x : Wd} (h : w.heap[b]? = some (.cells #[.int .i32 (pkW x), .int .i64 (x.pos : Int), .string (mkS (ptW x)), .int .i64 x.num] 116 (0, 0))) : ∃ (L : List Value) (X : Int), Hid (X = pkW x ∧ L = pwL (pkW x) x.pos (ptW x) x.num) ∧ (((Tryz.prog.info? 116).map (·.size) = some L.length) ∧ (L.length = 4 ∧ ∀ v ∈ L, v.oneCell' = true)) ∧ w.heap[b]? = some (.cells L.toArray 116 (0, 0)) ∧ w.cell? ⟨b, 0, none⟩ = some (.int .i32 X) :=
  ⟨_, _, ⟨rfl, rfl⟩, ⟨infoPW, rfl, pwL_one _ _ _ _⟩, h, by simp [World.cell?, h]⟩
theorem pnext_any (w : World) (pb : Nat) (src : Bs) (a : Option Addr) (c : Nat) (l : List Wd) (R : List Value) (h : PSt w pb src a c l R) : Calls Tryz.prog 103 #[.pointer (some ⟨pb, 0, none⟩)] w (PPost w pb src a c R Rw (nextW l)) := by
  obtain ⟨k, hs⟩ := h.sc
  refine (next_any w pb 0 _ _ src a c l hs h.env).mono ?_
  rintro e w' ⟨hm, hp⟩
  cases hr : nextW l with
  | error f =>
    rw [hr] at hp
    exact ⟨hm, hp⟩
  | ok p =>
    obtain ⟨x, r⟩ := p
    rw [hr] at hp
    obtain ⟨he, j, hj⟩ := hp
    exact ⟨hm, he, ⟨j, by simpa using hj⟩, h.env.keep (hm.bel h.lt)⟩
set_option maxRecDepth 100000 in
set_option maxHeartbeats 1600000 in
theorem take_any (w : World) (pb : Nat) (src : Bs) (a : Option Addr) (c : Nat) (l : List Wd) (R : List Value) (kd : Int) (h : PSt w pb src a c l R) : Calls Tryz.prog 78 #[.pointer (some ⟨pb, 0, none⟩), .int .i32 kd] w (PPost w pb src a c R Rw (takeW kd l)) := by
  have HP := hidX h
  have hpb := h.lt
  clear h
  go_enter Tryz.func78, Tryz.ntmps78
  go_upto_region 1 with fail
  refine lift_alloc ?_
  intro w1 hW1 hq1
  have HPN := hidX (pnext_any w1 pb src a c l R (HP.out.below hW1))
  have M1 := hidX (MkO.of_below hW1 : MkO (some pb) w w1)
  have hrb : w.heap.size < w1.heap.size := lt_of_block' hq1
  obtain ⟨Z, hZ⟩ : ∃ Z : Array Value, Z = #[.int .i32 0, .int .i64 0, .string ⟨#[]⟩, .int .i64 0] := ⟨_, rfl⟩
  rw [← hZ] at hq1
  have hZs : Z.size = 4 := by rw [hZ]; rfl
  clear hW1 hZ
  cases hr : nextW l with
  | error f =>
    have HT : Hid (takeW kd l = .error f) := show _ = _ from by unfold takeW; rw [hr]
    rw [hr] at HPN
    go_wp2_with (first | (go_at_call 103; refine HPN.out.mono ?_; rintro e w2 ⟨hm2, rfl⟩; unfold fltE) | fail)
    exact ⟨rfl, PPost.err HT.out (M1.out.trans hm2)⟩
  | ok p =>
    obtain ⟨x, r⟩ := p
    rw [hr] at HPN
    go_upto_region 2 with (first | (go_at_call 103; refine HPN.out.mono ?_; rintro e w2 ⟨hm2, hw2, hp2⟩; replace hw2 : e = .returned (pwA x) := hw2; subst hw2; unfold pwA) | fail)
    refine lift_alloc ?_
    intro w3 hW3 hq3
    obtain ⟨L, X, HLX, hLl, hq3, y0⟩ := wd_box hq3
    have M3 := hidX ((M1.out.trans hm2).trans (MkO.of_below hW3))
    have P3 := hidX (hp2.below hW3)
    have hs2 := hm2.rest.size
    have hqr := (hW3.block w.heap.size (by omega)).trans ((hm2.block w.heap.size hrb (fun e => by injection e; omega)).trans hq1)
    have hl3 : w2.heap.size < w3.heap.size := lt_of_block' hq3
    clear hW3 hm2 hp2 hq1 HPN HP M1
    by_cases hk : X = kd
    · have HT : Hid (takeW kd l = .ok (x, r)) := show _ = _ from by unfold takeW; rw [hr]; simp [← HLX.out.1, hk]
      have e1 : (X != kd) = false := by simp [hk]
      clear hk
      go_wp2_with (first | (refine wpList_load_blk (by rfl) 116 (.tmp 5) (by rfl) w2.heap.size L (by rfl) 116 (0, 0) hq3 _ Tryz.underlying116 rfl hLl.1 ?_) | (refine wpList_store_blk (by rfl) 116 (.tmp 4) (.tmp 17) (by rfl) w.heap.size L (by rfl) (by rfl) _ 116 hqr (hZs.trans hLl.2.1.symm) hLl.1 hLl.2.2 ?_; intro w4 hb4 ht4) | fail)
      have hld := run_loadVar_mid (P := Tryz.prog) w4 w.heap.size 0 116 L _ (range_blk hb4.out) Tryz.underlying116 rfl hLl.1
      go_frame
      refine bodyPost_ret (v := .agg L.toArray) (by simp [results, Tryz.results78, asAddr, hld]) rfl (PPost.good HT.out (M3.out.turn ht4.out (Nat.le_refl _)) ?_ (P3.out.turned ht4.out (by omega)))
      rw [HLX.out.2]
      rfl
    · have HT : Hid (takeW kd l = .error (3, x.pos)) := show _ = _ from by unfold takeW; rw [hr]; simp [← HLX.out.1, hk]
      have e1 : (X != kd) = true := by simp [hk]
      have HF := hidX (fun u => (show Calls Tryz.prog 86 #[.agg L.toArray, .int .i64 3] u fun e w' => e = .returned (.agg #[.int .i64 3, .int .i64 (x.pos : Int)]) ∧ Below u.heap.size u w' from by rw [HLX.out.2]; exact wfault_any _ _ _ _ _ _))
      clear hk
      go_wp2_with (first | (refine wpList_load_blk (by rfl) 116 (.tmp 5) (by rfl) w2.heap.size L (by rfl) 116 (0, 0) hq3 _ Tryz.underlying116 rfl hLl.1 ?_) | (go_at_call 86; refine (HF.out _).mono ?_; rintro e w4 ⟨rfl, hb4⟩) | fail)
      exact ⟨rfl, PPost.err HT.out (M3.out.trans (MkO.of_below hb4))⟩
end Go.Proofs.YtdhpoagjmiligaaGreatDoor

namespace Go.Proofs.YtdhpoagjmiligaaGreatDoor
open Go.RowKit
attribute [local go_sem ↓] Go.wp_at_zero Go.wp_at_succ

def openW (n m : Int) (l : List Wd) : Px Wd := match nextW l with
  | .error f => .error f
  | .ok (x, _) => if pkW x = 40 ∧ m ≤ n then .error (4, x.pos) else takeW 40 l
def boundW (n m : Int) (l : List Wd) : Px Unit := match nextW l with
  | .error f => .error f
  | .ok (x, _) => if m ≤ n ∧ pkW x ≠ 41 ∧ pkW x ≠ 0 then .error (4, x.pos) else .ok ((), l)
def notT : Bs := [110, 111, 116]
def pClass (l : List Wd) : Px Bs := match takeW 97 l with
  | .error f => .error f
  | .ok (x, r) => if ptW x = notT then .error (3, x.pos) else .ok (ptW x, r)
def pVal (l : List Wd) : Px V := match nextW l with
  | .error f => .error f
  | .ok (x, r) => if pkW x = 48 ∨ pkW x = 97 then .ok (wVal (pkW x) x.num (ptW x), r) else .error (3, x.pos)
def Rn {α : Type} (_ : α) (e : Ending) (_ : World) : Prop := e = .returned (.tuple #[])
def Rs1 (t : Bs) (e : Ending) (_ : World) : Prop := e = .returned (.string (mkS t))
def Rv (v : V) (e : Ending) (_ : World) : Prop := e = .returned (.agg v.cells.toArray)
theorem fault_L {L : List Value} {X : Int} {x : Wd} (h : Hid (X = pkW x ∧ L = pwL (pkW x) x.pos (ptW x) x.num)) (code : Int) (u : World) : Calls Tryz.prog 86 #[.agg L.toArray, .int .i64 code] u fun e w' => e = .returned (.agg #[.int .i64 code, .int .i64 (x.pos : Int)]) ∧ Below u.heap.size u w' := by
  rw [h.out.2]
  exact wfault_any _ _ _ _ _ _
theorem value_L {L : List Value} {X : Int} {x : Wd} (h : Hid (X = pkW x ∧ L = pwL (pkW x) x.pos (ptW x) x.num)) (u : World) : Calls Tryz.prog 104 #[.agg L.toArray] u fun e w' => e = .returned (.agg (wVal (pkW x) x.num (ptW x)).cells.toArray) ∧ Below u.heap.size u w' := by
  rw [h.out.2]
  exact wvalue_any _ _ _ _ _
theorem peek_A {w : World} {x : Wd} {r : List Wd} {e : Ending} {w' : World} (h : PkPost w (.ok (x, r)) e w') : Below w.heap.size w w' ∧ e = .returned (pwA x) := h
set_option maxRecDepth 100000 in
set_option maxHeartbeats 1600000 in
theorem open_any (w : World) (pb : Nat) (src : Bs) (a : Option Addr) (c : Nat) (l : List Wd) (R : List Value) (n m : Int) (h : PSt w pb src a c l R) : Calls Tryz.prog 49 #[.pointer (some ⟨pb, 0, none⟩), .int .i64 n, .int .i64 m] w (PPost w pb src a c R Rn (openW n m l)) := by
  have HP := hidX h
  obtain ⟨k, hs⟩ := h.sc
  have HPK := hidX (peek_any w pb k src a c l R hs h.env)
  have HRG := hidX hs.range
  clear h hs
  go_enter Tryz.func49, Tryz.ntmps49
  cases hr : nextW l with
  | error f =>
    have HT : Hid (openW n m l = .error f) := show _ = _ from by unfold openW; rw [hr]
    rw [hr] at HPK
    go_wp2_with (first | (refine wpList_load_mid (by rfl) 58 (.tmp 9) (by rfl) pb 0 (by rfl) [.slice a src.length c, .int .i64 (k : Int)] _ HRG.out Tryz.underlying58 rfl infoSc ?_) | (go_at_call 85; refine HPK.out.mono ?_; rintro e w2 ⟨hb2, rfl⟩; unfold fltE) | fail)
    exact ⟨rfl, PPost.err HT.out (MkO.of_below hb2)⟩
  | ok p =>
    obtain ⟨x, r⟩ := p
    rw [hr] at HPK
    go_upto_region 1 with (first | (refine wpList_load_mid (by rfl) 58 (.tmp 9) (by rfl) pb 0 (by rfl) [.slice a src.length c, .int .i64 (k : Int)] _ HRG.out Tryz.underlying58 rfl infoSc ?_) | (go_at_call 85; refine HPK.out.mono ?_; intro e w2 hp2; obtain ⟨hb2, hp2⟩ := peek_A hp2; subst hp2; unfold pwA) | fail)
    refine lift_alloc ?_
    intro w3 hW3 hq3
    obtain ⟨L, X, HLX, hLl, hq3, y0⟩ := wd_box hq3
    have HB3 := hidX (hb2.trans (hW3.mono hb2.size))
    clear hW3 hb2 HPK HRG
    by_cases hk : X = 40 ∧ m ≤ n
    · have HT : Hid (openW n m l = .error (4, x.pos)) := show _ = _ from by unfold openW; rw [hr]; simp only; rw [← HLX.out.1, if_pos hk]
      have e1 : (X == 40) = true := by simp [hk.1]
      have e2 : m ≤ n := hk.2
      clear hk
      go_wp2_with (first | (refine wpList_load_blk (by rfl) 116 (.tmp 6) (by rfl) w2.heap.size L (by rfl) 116 (0, 0) hq3 _ Tryz.underlying116 rfl hLl.1 ?_) | (go_at_call 86; refine (fault_L HLX 4 _).mono ?_; rintro e w4 ⟨rfl, hb4⟩) | fail)
      exact ⟨rfl, PPost.err HT.out (MkO.of_below (HB3.out.trans (hb4.mono HB3.out.size)))⟩
    · have HT : Hid (openW n m l = takeW 40 l) := show _ = _ from by unfold openW; rw [hr]; simp only; rw [← HLX.out.1, if_neg hk]
      have HTK := hidX (take_any w3 pb src a c l R 40 (HP.out.below HB3.out))
      have hor : (X == 40) = false ∨ ((X == 40) = true ∧ ¬ m ≤ n) := by
        by_cases h1 : X = 40
        · exact .inr ⟨by simp [h1], fun h2 => hk ⟨h1, h2⟩⟩
        · exact .inl (beqF h1)
      clear hk
      cases ht : takeW 40 l with
      | error f =>
        rw [ht] at HTK HT
        rcases hor with e1 | ⟨e1, e2⟩
        all_goals
          go_wp2_with (first | (go_at_call 78; refine HTK.out.mono ?_; rintro e w4 ⟨hm4, rfl⟩; unfold fltE) | fail)
          exact ⟨rfl, PPost.err HT.out ((MkO.of_below HB3.out).trans hm4)⟩
      | ok p =>
        obtain ⟨x', r'⟩ := p
        rw [ht] at HTK HT
        rcases hor with e1 | ⟨e1, e2⟩
        all_goals
          go_wp2_with (first | (go_at_call 78; refine HTK.out.mono ?_; rintro e w4 ⟨hm4, hw4, hp4⟩; replace hw4 : e = .returned (pwA x') := hw4; subst hw4) | fail)
          refine bodyPost_end (results_none rfl _ _ _) rfl (PPost.good HT.out ((MkO.of_below HB3.out).trans hm4) rfl hp4)
set_option maxRecDepth 100000 in
set_option maxHeartbeats 1600000 in
theorem bound_any (w : World) (pb : Nat) (src : Bs) (a : Option Addr) (c : Nat) (l : List Wd) (R : List Value) (n m : Int) (h : PSt w pb src a c l R) : Calls Tryz.prog 101 #[.pointer (some ⟨pb, 0, none⟩), .int .i64 n, .int .i64 m] w (PPost w pb src a c R Rn (boundW n m l)) := by
  have HP := hidX h
  obtain ⟨k, hs⟩ := h.sc
  have HPK := hidX (peek_any w pb k src a c l R hs h.env)
  have HRG := hidX hs.range
  clear h hs
  go_enter Tryz.func101, Tryz.ntmps101
  cases hr : nextW l with
  | error f =>
    have HT : Hid (boundW n m l = .error f) := show _ = _ from by unfold boundW; rw [hr]
    rw [hr] at HPK
    go_wp2_with (first | (refine wpList_load_mid (by rfl) 58 (.tmp 9) (by rfl) pb 0 (by rfl) [.slice a src.length c, .int .i64 (k : Int)] _ HRG.out Tryz.underlying58 rfl infoSc ?_) | (go_at_call 85; refine HPK.out.mono ?_; rintro e w2 ⟨hb2, rfl⟩; unfold fltE) | fail)
    exact ⟨rfl, PPost.err HT.out (MkO.of_below hb2)⟩
  | ok p =>
    obtain ⟨x, r⟩ := p
    rw [hr] at HPK
    go_upto_region 1 with (first | (refine wpList_load_mid (by rfl) 58 (.tmp 9) (by rfl) pb 0 (by rfl) [.slice a src.length c, .int .i64 (k : Int)] _ HRG.out Tryz.underlying58 rfl infoSc ?_) | (go_at_call 85; refine HPK.out.mono ?_; intro e w2 hp2; obtain ⟨hb2, hp2⟩ := peek_A hp2; subst hp2; unfold pwA) | fail)
    refine lift_alloc ?_
    intro w3 hW3 hq3
    obtain ⟨L, X, HLX, hLl, hq3, y0⟩ := wd_box hq3
    have HB3 := hidX (hb2.trans (hW3.mono hb2.size))
    clear hW3 hb2 HPK HRG
    by_cases hk : m ≤ n ∧ X ≠ 41 ∧ X ≠ 0
    · have HT : Hid (boundW n m l = .error (4, x.pos)) := show _ = _ from by unfold boundW; rw [hr]; simp only; rw [← HLX.out.1, if_pos hk]
      have e1 : (X != 41) = true := by simp [hk.2.1]
      have e2 : (X != 0) = true := by simp [hk.2.2]
      have e3 : m ≤ n := hk.1
      clear hk
      go_wp2_with (first | (refine wpList_load_blk (by rfl) 116 (.tmp 6) (by rfl) w2.heap.size L (by rfl) 116 (0, 0) hq3 _ Tryz.underlying116 rfl hLl.1 ?_) | (go_at_call 86; refine (fault_L HLX 4 _).mono ?_; rintro e w4 ⟨rfl, hb4⟩) | fail)
      exact ⟨rfl, PPost.err HT.out (MkO.of_below (HB3.out.trans (hb4.mono HB3.out.size)))⟩
    · have HT : Hid (boundW n m l = .ok ((), l)) := show _ = _ from by unfold boundW; rw [hr]; simp only; rw [← HLX.out.1, if_neg hk]
      have P3 := hidX (HP.out.below HB3.out)
      have hor : ¬ m ≤ n ∨ (m ≤ n ∧ (X != 41) = false) ∨ (m ≤ n ∧ (X != 41) = true ∧ (X != 0) = false) := by
        by_cases h1 : m ≤ n
        · by_cases h2 : X = 41
          · exact .inr (.inl ⟨h1, by simp [h2]⟩)
          · by_cases h3 : X = 0
            · exact .inr (.inr ⟨h1, by simp [h3], by simp [h3]⟩)
            · exact absurd ⟨h1, h2, h3⟩ hk
        · exact .inl h1
      clear hk
      rcases hor with e1 | ⟨e1, e2⟩ | ⟨e1, e2, e3⟩
      all_goals
        go_wp2_with fail
        exact bodyPost_end (results_none rfl _ _ _) rfl (PPost.good HT.out (MkO.of_below HB3.out) rfl P3.out)
theorem wd_text {w : World} {b : Nat} {x : Wd} {L : List Value} {X : Int} (h : Hid (X = pkW x ∧ L = pwL (pkW x) x.pos (ptW x) x.num)) (hq : w.heap[b]? = some (.cells L.toArray 116 (0, 0))) : w.cell? ⟨b, 2, none⟩ = some (.string (mkS (ptW x))) ∧ w.cell? ⟨b, 3, none⟩ = some (.int .i64 x.num) := by
  rw [h.out.2] at hq
  exact ⟨(cells4X hq).2.2.1, (cells4X hq).2.2.2⟩
set_option maxRecDepth 100000 in
set_option maxHeartbeats 1600000 in
theorem class_any (w : World) (pb : Nat) (src : Bs) (a : Option Addr) (c : Nat) (l : List Wd) (R : List Value) (h : PSt w pb src a c l R) : Calls Tryz.prog 74 #[.pointer (some ⟨pb, 0, none⟩)] w (PPost w pb src a c R Rs1 (pClass l)) := by
  have HTK := hidX (take_any w pb src a c l R 97 h)
  clear h
  go_enter Tryz.func74, Tryz.ntmps74
  cases hr : takeW 97 l with
  | error f =>
    have HT : Hid (pClass l = .error f) := show _ = _ from by unfold pClass; rw [hr]
    rw [hr] at HTK
    go_wp2_with (first | (go_at_call 78; refine HTK.out.mono ?_; rintro e w2 ⟨hm2, rfl⟩; unfold fltE) | fail)
    exact ⟨rfl, PPost.err HT.out hm2⟩
  | ok p =>
    obtain ⟨x, r⟩ := p
    rw [hr] at HTK
    go_upto_region 2 with (first | (go_at_call 78; refine HTK.out.mono ?_; rintro e w2 ⟨hm2, hw2, hp2⟩; replace hw2 : e = .returned (pwA x) := hw2; subst hw2; unfold pwA) | fail)
    refine lift_alloc ?_
    intro w3 hW3 hq3
    obtain ⟨L, X, HLX, hLl, hq3, y0⟩ := wd_box hq3
    have M3 := hidX (hm2.trans (MkO.of_below hW3))
    have P3 := hidX (hp2.below hW3)
    have y2 := (wd_text HLX hq3).1
    have hbq := beq_lit (mkS (ptW x)) notT
    rw [bs_mkS] at hbq
    clear hW3 hm2 hp2 HTK
    by_cases hk : ptW x = notT
    · have HT : Hid (pClass l = .error (3, x.pos)) := show _ = _ from by unfold pClass; rw [hr]; simp only; rw [if_pos hk]
      rw [decide_eq_true hk] at hbq
      replace hbq : ((mkS (ptW x)).toList == [110, 111, 116]) = true := hbq
      clear hk
      go_wp2_with (first | (refine wpList_load_blk (by rfl) 116 (.tmp 3) (by rfl) w2.heap.size L (by rfl) 116 (0, 0) hq3 _ Tryz.underlying116 rfl hLl.1 ?_) | (go_at_call 86; refine (fault_L HLX 3 _).mono ?_; rintro e w4 ⟨rfl, hb4⟩) | fail)
      exact ⟨rfl, PPost.err HT.out (M3.out.trans (MkO.of_below hb4))⟩
    · have HT : Hid (pClass l = .ok (ptW x, r)) := show _ = _ from by unfold pClass; rw [hr]; simp only; rw [if_neg hk]
      rw [decide_eq_false hk] at hbq
      replace hbq : ((mkS (ptW x)).toList == [110, 111, 116]) = false := hbq
      clear hk
      go_wp2_with fail
      go_ret
      exact PPost.good HT.out M3.out rfl P3.out
set_option maxRecDepth 100000 in
set_option maxHeartbeats 1600000 in
theorem value_any (w : World) (pb : Nat) (src : Bs) (a : Option Addr) (c : Nat) (l : List Wd) (R : List Value) (h : PSt w pb src a c l R) : Calls Tryz.prog 80 #[.pointer (some ⟨pb, 0, none⟩)] w (PPost w pb src a c R Rv (pVal l)) := by
  have HP := hidX h
  have hpb := h.lt
  clear h
  go_enter Tryz.func80, Tryz.ntmps80
  go_upto_region 1 with fail
  refine lift_alloc ?_
  intro w1 hW1 hq1
  have HPN := hidX (pnext_any w1 pb src a c l R (HP.out.below hW1))
  have M1 := hidX (MkO.of_below hW1 : MkO (some pb) w w1)
  have hrb : w.heap.size < w1.heap.size := lt_of_block' hq1
  obtain ⟨Z, hZ⟩ : ∃ Z : Array Value, Z = #[.int .i64 0, .int .i64 0, .string ⟨#[]⟩] := ⟨_, rfl⟩
  rw [← hZ] at hq1
  have hZs : Z.size = 3 := by rw [hZ]; rfl
  clear hW1 hZ
  cases hr : nextW l with
  | error f =>
    have HT : Hid (pVal l = .error f) := show _ = _ from by unfold pVal; rw [hr]
    rw [hr] at HPN
    go_wp2_with (first | (go_at_call 103; refine HPN.out.mono ?_; rintro e w2 ⟨hm2, rfl⟩; unfold fltE) | fail)
    exact ⟨rfl, PPost.err HT.out (M1.out.trans hm2)⟩
  | ok p =>
    obtain ⟨x, r⟩ := p
    rw [hr] at HPN
    go_upto_region 2 with (first | (go_at_call 103; refine HPN.out.mono ?_; rintro e w2 ⟨hm2, hw2, hp2⟩; replace hw2 : e = .returned (pwA x) := hw2; subst hw2; unfold pwA) | fail)
    refine lift_alloc ?_
    intro w3 hW3 hq3
    obtain ⟨L, X, HLX, hLl, hq3, y0⟩ := wd_box hq3
    have M3 := hidX ((M1.out.trans hm2).trans (MkO.of_below hW3))
    have P3 := hidX (hp2.below hW3)
    have hs2 := hm2.rest.size
    have hqr := (hW3.block w.heap.size (by omega)).trans ((hm2.block w.heap.size hrb (fun e => by injection e; omega)).trans hq1)
    have hl3 : w2.heap.size < w3.heap.size := lt_of_block' hq3
    clear hW3 hm2 hp2 hq1 HPN HP M1
    by_cases hk : X = 48 ∨ X = 97
    · have HT : Hid (pVal l = .ok (wVal (pkW x) x.num (ptW x), r)) := show _ = _ from by unfold pVal; rw [hr]; simp only; rw [if_pos (by rw [← HLX.out.1]; exact hk)]
      obtain ⟨v, hv⟩ : ∃ v, v = wVal (pkW x) x.num (ptW x) := ⟨_, rfl⟩
      have HVL := hidX (value_L HLX)
      rw [← hv] at HT HVL
      have hor : (X != 48) = false ∨ ((X != 48) = true ∧ (X != 97) = false) := by
        rcases hk with h | h
        · exact .inl (by simp [h])
        · exact .inr ⟨by simp [h], by simp [h]⟩
      clear hk hv
      rcases hor with e1 | ⟨e1, e2⟩
      all_goals
        go_wp2_with (first | (refine wpList_load_blk (by rfl) 116 (.tmp 3) (by rfl) w2.heap.size L (by rfl) 116 (0, 0) hq3 _ Tryz.underlying116 rfl hLl.1 ?_) | (go_at_call 104; refine (HVL.out _).mono ?_; rintro e w4 ⟨rfl, hb4⟩; have hq4 := (hb4.block w.heap.size (by omega)).trans hqr) | (refine wpList_store_blk (by rfl) 101 (.tmp 2) (.tmp 20) (by rfl) w.heap.size v.cells (by rfl) (by rfl) _ 101 hq4 hZs infoVl (vcells_one _) ?_; intro w5 hb5 ht5) | fail)
        have hld := run_loadVar_mid (P := Tryz.prog) w5 w.heap.size 0 101 v.cells _ (range_blk hb5.out) Tryz.underlying101 rfl infoVl
        go_frame
        exact bodyPost_ret (v := .agg v.cells.toArray) (by simp [results, Tryz.results80, asAddr, hld]) rfl (PPost.good HT.out ((M3.out.trans (MkO.of_below hb4)).turn ht5.out (Nat.le_refl _)) rfl ((P3.out.below hb4).turned ht5.out (by omega)))
    · have HT : Hid (pVal l = .error (3, x.pos)) := show _ = _ from by unfold pVal; rw [hr]; simp only; rw [if_neg (by rw [← HLX.out.1]; exact hk)]
      have e1 : (X != 48) = true := by simp; exact fun h => hk (.inl h)
      have e2 : (X != 97) = true := by simp; exact fun h => hk (.inr h)
      clear hk
      go_wp2_with (first | (refine wpList_load_blk (by rfl) 116 (.tmp 3) (by rfl) w2.heap.size L (by rfl) 116 (0, 0) hq3 _ Tryz.underlying116 rfl hLl.1 ?_) | (go_at_call 86; refine (fault_L HLX 3 _).mono ?_; rintro e w4 ⟨rfl, hb4⟩) | fail)
      exact ⟨rfl, PPost.err HT.out (M3.out.trans (MkO.of_below hb4))⟩
end Go.Proofs.YtdhpoagjmiligaaGreatDoor

namespace Go.Proofs.YtdhpoagjmiligaaGreatDoor
open Go.RowKit
attribute [local go_sem ↓] Go.wp_at_zero Go.wp_at_succ

/-- A list up to its ')'; n: how many may still come. -/
def pList {α : Type} (rd : List Wd → Px α) : Nat → List Wd → Px (List α)
  | 0, l => match nextW l with
    | .error f => .error f
    | .ok (x, r) => if pkW x = 41 then .ok ([], r) else if pkW x = 0 then .error (3, x.pos) else .error (4, x.pos)
  | n + 1, l => match nextW l with
    | .error f => .error f
    | .ok (x, r) => if pkW x = 41 then .ok ([], r) else match rd l with
      | .error f => .error f
      | .ok (v, l1) => match pList rd n l1 with
        | .error f => .error f
        | .ok (vs, l2) => .ok (v :: vs, l2)
def preL {α : Type} (M : List α) (r : Px (List α)) : Px (List α) := match r with
  | .error f => .error f
  | .ok (vs, l) => .ok (M ++ vs, l)
theorem pList_err {α : Type} {rd : List Wd → Px α} {n : Nat} {l : List Wd} {f : Flt} (h : nextW l = .error f) : pList rd n l = .error f := by
  cases n <;> simp [pList, h]
theorem pList_end {α : Type} {rd : List Wd → Px α} {n : Nat} {l r : List Wd} {x : Wd} (h : nextW l = .ok (x, r)) (hx : pkW x = 41) : pList rd n l = .ok ([], r) := by
  cases n <;> simp [pList, h, hx]
theorem pList_zero {α : Type} {rd : List Wd → Px α} {l r : List Wd} {x : Wd} (h : nextW l = .ok (x, r)) (hx : pkW x ≠ 41) : pList rd 0 l = if pkW x = 0 then .error (3, x.pos) else .error (4, x.pos) := by
  simp [pList, h, hx]
theorem pList_bad {α : Type} {rd : List Wd → Px α} {n : Nat} {l r : List Wd} {x : Wd} {f : Flt} (h : nextW l = .ok (x, r)) (hx : pkW x ≠ 41) (hr : rd l = .error f) : pList rd (n + 1) l = .error f := by
  simp [pList, h, hx, hr]
theorem pList_step {α : Type} {rd : List Wd → Px α} {n : Nat} {l r l1 : List Wd} {x : Wd} {v : α} {M : List α} (h : nextW l = .ok (x, r)) (hx : pkW x ≠ 41) (hr : rd l = .ok (v, l1)) : preL M (pList rd (n + 1) l) = preL (M ++ [v]) (pList rd n l1) := by
  simp only [pList, h, hx, hr, if_false]
  cases pList rd n l1 with
  | error f => rfl
  | ok p =>
    obtain ⟨vs, l2⟩ := p
    simp [preL]
def sliceLen : Value → Nat
  | .slice _ n _ => n
  | _ => 0
theorem infoVF1 : (Tryz.prog.info? 101).map (fun i => (i.zero, i.size, i.bytes)) = some (some (.agg #[.int .i64 0, .int .i64 0, .string ⟨#[]⟩]), 3, 32) := by kernel_rfl
def Rvs (B : Nat) (vs : List V) (e : Ending) (w' : World) : Prop := ∃ la lc, e = .returned (.slice la vs.length lc) ∧ w'.ownsRow B 101 3 (.slice la vs.length lc) vs.length (vs.flatMap V.cells)
theorem own_mko {w w' : World} {base pb : Nat} {e : TypeId} {m : Nat} {v : Value} {n : Nat} {xs : List Value} (h : w.ownsRow base e m v n xs) (hm : MkO (some pb) w w') (hp : pb < base) : w'.ownsRow base e m v n xs :=
  owns_of_block h fun k hk => hm.block k (h.lt k hk).2 (fun e => by
    injection e with e
    have := (h.lt k hk).1
    omega)
theorem MkO.grown {w0 w w' : World} {pb : Nat} {row : Option Nat} (h : MkO (some pb) w0 w) (hg : w.grownBy w' row) (hr : ∀ k, row = some k → w0.heap.size ≤ k) : MkO (some pb) w0 w' :=
  ⟨h.rest.grown hg (Nat.zero_le _) (fun _ _ => Nat.zero_le _), fun g hlt hne => (hg.block g (Nat.lt_of_lt_of_le hlt h.rest.size) (fun e => by have := hr g e.symm; omega)).trans (h.block g hlt hne)⟩
theorem PSt.keep {w w' : World} {pb : Nat} {src : Bs} {a : Option Addr} {c : Nat} {l : List Wd} {R : List Value} (h : PSt w pb src a c l R) (hb : Below (pb + 1) w w') : PSt w' pb src a c l R := by
  obtain ⟨k, hs⟩ := h.sc
  exact ⟨⟨k, (hb.block pb (by omega)).trans hs.blk, hs.src0, hs.cap, hs.len, hs.bys.keep (fun b o e => Nat.lt_succ_of_lt (hs.far b o e)) hb, hs.far, hs.pos⟩, h.env.keep (hb.mono (by omega))⟩
theorem pVal_end {l r : List Wd} {x : Wd} (h : nextW l = .ok (x, r)) (hx : pkW x = 0) : pVal l = .error (3, x.pos) := by
  unfold pVal
  rw [h]
  simp [hx]
set_option maxRecDepth 100000 in
set_option maxHeartbeats 3200000 in
theorem readVals_any (w : World) (pb : Nat) (src : Bs) (a : Option Addr) (c : Nat) (l : List Wd) (R : List Value) (h : PSt w pb src a c l R) : Calls Tryz.prog 79 #[.pointer (some ⟨pb, 0, none⟩), .func (.func 80) #[.pointer (some ⟨pb, 0, none⟩)] #[]] w (PPost w pb src a c R (Rvs w.heap.size) (pList pVal 6 l)) := by
  have HP := hidX h
  have hpb := h.lt
  clear h
  go_enter Tryz.func79, Tryz.ntmps79
  go_wp2_with fail
  go_loopw [5] (fun v wr => ∃ (la : Option Addr) (lc n : Nat) (M : List V) (l' : List Wd), M.length + n = 6 ∧ v = .slice la M.length lc ∧ wr.ownsRow w.heap.size 101 3 (.slice la M.length lc) M.length (M.flatMap V.cells) ∧ PSt wr pb src a c l' R ∧ MkO (some pb) w wr ∧ pList pVal 6 l = preL M (pList pVal n l')) (fun v _ => 6 - sliceLen v)
  case atStart => exact ⟨none, 0, 6, [], l, rfl, rfl, World.ownsRow_nil _ _ _ _, HP.out, MkO.refl _ _, by unfold preL; cases pList pVal 6 l <;> rfl⟩
  case round =>
    obtain ⟨la, lc, n, M, l', hMn, rfl, hown, hps, hmk, hpl⟩ := hrel
    have OW := hidX hown
    have PS := hidX hps
    have MK := hidX hmk
    have PL := hidX hpl
    have HAH := hidX (ahead_any wr pb src a c l' R 41 hps)
    clear hown hps hmk hpl
    cases hr : nextW l' with
    | error f =>
      have HT : Hid (pList pVal 6 l = .error f) := show _ = _ from by rw [PL.out, pList_err hr]; rfl
      rw [hr] at HAH
      go_wp2_with (first | (go_at_call 48; refine HAH.out.mono ?_; rintro e w2 ⟨hb2, rfl⟩; unfold fltE) | fail)
      exact ⟨rfl, PPost.err HT.out (MK.out.trans (MkO.of_below hb2))⟩
    | ok p =>
      obtain ⟨x, r⟩ := p
      rw [hr] at HAH
      by_cases hx : pkW x = 41
      · have HT : Hid (pList pVal 6 l = .ok (M, r)) := show _ = _ from by rw [PL.out, pList_end hr hx]; simp [preL]
        replace HAH : Hid (Calls Tryz.prog 48 #[.pointer (some ⟨pb, 0, none⟩), .int .i32 41] wr fun e w' => Below wr.heap.size wr w' ∧ e = .returned (.bool true)) := by
          rw [← decide_eq_true hx]
          exact HAH
        have HTK := hidX (fun u (hu : Below wr.heap.size wr u) => take_any u pb src a c l' R 41 (PS.out.below hu))
        rw [show takeW 41 l' = .ok (x, r) by unfold takeW; rw [hr]; simp [hx]] at HTK
        clear hx
        go_wp2_with (first | (go_at_call 48; refine HAH.out.mono ?_; rintro e w2 ⟨hb2, rfl⟩) | (go_at_call 78; refine (HTK.out _ hb2).mono ?_; rintro e w4 ⟨hm4, hw4, hp4⟩; replace hw4 : e = .returned (pwA x) := hw4; subst hw4) | fail)
        go_ret
        exact PPost.good HT.out ((MK.out.trans (MkO.of_below hb2)).trans hm4) ⟨la, lc, rfl, own_mko (own_bel OW.out hb2) hm4 hpb⟩ hp4
      · replace HAH : Hid (Calls Tryz.prog 48 #[.pointer (some ⟨pb, 0, none⟩), .int .i32 41] wr fun e w' => Below wr.heap.size wr w' ∧ e = .returned (.bool false)) := by
          rw [← decide_eq_false hx]
          exact HAH
        have HBN := hidX (fun u (hu : Below wr.heap.size wr u) => bound_any u pb src a c l' R (M.length : Int) 6 (PS.out.below hu))
        have HVA := hidX (fun u (hu : PSt u pb src a c l' R) => value_any u pb src a c l' R hu)
        by_cases hn : n = 0 ∧ pkW x ≠ 0
        · have HT : Hid (pList pVal 6 l = .error (4, x.pos)) := show _ = _ from by rw [PL.out, hn.1, pList_zero hr hx, if_neg hn.2]; rfl
          rw [show boundW (M.length : Int) 6 l' = .error (4, x.pos) by unfold boundW; rw [hr]; simp only; rw [if_pos ⟨by omega, hx, hn.2⟩]] at HBN
          clear hx hn
          go_wp2_with (first | (go_at_call 48; refine HAH.out.mono ?_; rintro e w2 ⟨hb2, rfl⟩) | (go_at_call 101; refine (HBN.out _ hb2).mono ?_; rintro e w3 ⟨hm3, rfl⟩; unfold fltE) | fail)
          exact ⟨rfl, PPost.err HT.out ((MK.out.trans (MkO.of_below hb2)).trans hm3)⟩
        · rw [show boundW (M.length : Int) 6 l' = .ok ((), l') by
            unfold boundW
            rw [hr]
            simp only
            rw [if_neg]
            rintro ⟨h1, h2, h3⟩
            exact hn ⟨by omega, h3⟩] at HBN
          cases hv : pVal l' with
          | error f =>
            have HT : Hid (pList pVal 6 l = .error f) := show _ = _ from by
              rw [PL.out]
              cases n with
              | zero =>
                have h0 : pkW x = 0 := Classical.byContradiction fun h => hn ⟨rfl, h⟩
                rw [pList_zero hr hx, if_pos h0]
                rw [pVal_end hr h0] at hv
                injection hv with hv
                rw [hv]
                rfl
              | succ n =>
                rw [pList_bad hr hx hv]
                rfl
            rw [hv] at HVA
            clear hx hn
            go_wp2_with (first | (go_at_call 48; refine HAH.out.mono ?_; rintro e w2 ⟨hb2, rfl⟩) | (go_at_call 101; refine (HBN.out _ hb2).mono ?_; rintro e w3 ⟨hm3, rfl, hp3⟩) | (go_at_call 80; refine (HVA.out _ hp3).mono ?_; rintro e w4 ⟨hm4, rfl⟩; unfold fltE) | fail)
            exact ⟨rfl, PPost.err HT.out (((MK.out.trans (MkO.of_below hb2)).trans hm3).trans hm4)⟩
          | ok p =>
            obtain ⟨v, l1⟩ := p
            rw [hv] at HVA
            obtain ⟨n, rfl⟩ : ∃ n', n = n' + 1 := by
              cases n with
              | zero =>
                have h0 : pkW x = 0 := Classical.byContradiction fun h => hn ⟨rfl, h⟩
                rw [pVal_end hr h0] at hv
                cases hv
              | succ n => exact ⟨n, rfl⟩
            have PL2 := hidX (PL.out.trans (pList_step (M := M) hr hx hv))
            clear hx hn hv
            go_wp2_with (first | (go_at_call 48; refine HAH.out.mono ?_; rintro e w2 ⟨hb2, rfl⟩) | (go_at_call 101; refine (HBN.out _ hb2).mono ?_; rintro e w3 ⟨hm3, rfl, hp3⟩) | (go_at_call 80; refine (HVA.out _ hp3).mono ?_; rintro e w4 ⟨hm4, hw4, hp4⟩; replace hw4 : e = .returned (.agg #[.int .i64 v.kind, .int .i64 v.num, .string v.sym]) := hw4; subst hw4; have M4 := hidX (((MK.out.trans (MkO.of_below hb2)).trans hm3).trans hm4); have OW4 := hidX (own_mko (own_mko (own_bel OW.out hb2) hm3 hpb) hm4 hpb); have hsz4 := M4.out.rest.size; have HA4 := hidX (fun o' => (Below.refl _ _).alloc (Nat.le_refl _) o' : ∀ o', Below w4.heap.size w4 (w4.alloc o'))) | (at_builtin; refine wpList_append_any (by rfl) (.tmp 13) (.tmp 16) 65 (by rfl) w.heap.size 101 _ 3 32 Tryz.underlying65 infoVF1 (by rfl) (by omega) _ M.length _ (by rfl) (own_bel OW4.out (HA4.out _)) (some ⟨_, 0, none⟩) 1 1 (by rfl) (V.cells v) (by rfl) (fun e => by cases e) (news_new _ _ _ _ (by simp)) (vcells_one v) (by unfold maxLen; omega) (by omega) (by simp; omega) ?_; intro a3 c3 w5 ho5 hg5 hl5) | fail)
            have hrow : ∀ k, (Value.slice la M.length lc).ownBlock = some k → w.heap.size ≤ k := fun k hk => (OW4.out.lt k hk).1
            have M5 := hidX ((M4.out.trans (MkO.of_below (HA4.out _))).grown hg5.out hrow)
            have P5 := hidX ((hp4.below (HA4.out _)).keep ((Below.refl _ _).grown hg5.out (by simp; omega) (fun k hk => by have := hrow k hk; omega)))
            go_roundw
            case rel => exact ⟨a3, c3, n, M ++ [v], l1, by simp; omega, by simp, by simpa using ho5.out, P5.out, M5.out, PL2.out⟩
            case measure => (simp [sliceLen]; omega)
end Go.Proofs.YtdhpoagjmiligaaGreatDoor

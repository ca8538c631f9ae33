/-
  OUR OWN TEXT. Sx14, Sx15, one behind the other.
-/
import Derived.Test.YtjjjagepnnbebaaGreatDoorKax
namespace Go.Proofs.YtjjjagepnnbebaaGreatDoor
open Go.RowKit
attribute [local go_sem ↓] Go.wp_at_zero Go.wp_at_succ

/-- A word as the walk meets it. -/
def pwA (x : Wd) : Value := .agg #[.int .i32 (pkW x), .int .i64 (x.pos : Int), .string (mkS (ptW x)), .int .i64 x.num]
def Rw (x : Wd) (e : Ending) (_ : World) : Prop := e = .returned (pwV (pkW x) x.pos (ptW x) x.num)
theorem PPost.err {α : Type} {w w' : World} {pb : Nat} {src : Bs} {a : Option Addr} {c : Nat} {R : List Value} {Q : α → Ending → World → Prop} {r : Px α} {f : Flt} (hr : r = .error f) (hm : MkO (some pb) w w') : PPost w pb src a c R Q r (fltE f) w' := by
  subst hr
  exact ⟨hm, rfl⟩
theorem PPost.good {α : Type} {w w' : World} {pb : Nat} {src : Bs} {a : Option Addr} {c : Nat} {R : List Value} {Q : α → Ending → World → Prop} {r : Px α} {x : α} {l : List Wd} {e : Ending} (hr : r = .ok (x, l)) (hm : MkO (some pb) w w') (hq : Q x e w') (hp : PSt w' pb src a c l R) : PPost w pb src a c R Q r e w' := by
  subst hr
  exact ⟨hm, hq, hp⟩
theorem PSt.mko {w w' : World} {pb : Nat} {src : Bs} {a : Option Addr} {c : Nat} {l : List Wd} {R : List Value} (h : PSt w pb src a c l R) (hm : MkO none w w') : PSt w' pb src a c l R :=
  h.below (hm.below (Nat.le_refl _) (fun g e => by cases e))
theorem PSt.turned {w w' : World} {pb g : Nat} {src : Bs} {a : Option Addr} {c : Nat} {l : List Wd} {R : List Value} (h : PSt w pb src a c l R) (ht : Turned w w' g) (hg : pb < g) : PSt w' pb src a c l R := by
  obtain ⟨k, hs⟩ := h.sc
  have hb : Below g w w' := ht.below (Nat.le_refl _)
  exact ⟨⟨k, (hb.block pb hg).trans hs.blk, hs.src0, hs.cap, hs.len, hs.bys.keep (fun b o e => Nat.lt_trans (hs.far b o e) hg) hb, hs.far, hs.pos⟩, h.env.keep (hb.mono (Nat.le_of_lt hg))⟩
/-- A word in its box: its cells behind a name, its kind behind another. -/
theorem wd_box {w : World} {b : Nat} {x : Wd} (h : w.heap[b]? = some (.cells #[.int .i32 (pkW x), .int .i64 (x.pos : Int), .string (mkS (ptW x)), .int .i64 x.num] 131 (0, 0))) : ∃ (L : List Value) (X : Int), Hid (X = pkW x ∧ L = pwL (pkW x) x.pos (ptW x) x.num) ∧ (((Tryz.prog.info? 131).map (·.size) = some L.length) ∧ (L.length = 4 ∧ ∀ v ∈ L, v.oneCell' = true)) ∧ w.heap[b]? = some (.cells L.toArray 131 (0, 0)) ∧ w.cell? ⟨b, 0, none⟩ = some (.int .i32 X) :=
  ⟨_, _, ⟨rfl, rfl⟩, ⟨infoPW, rfl, pwL_one _ _ _ _⟩, h, by simp [World.cell?, h]⟩
theorem pnext_any (w : World) (pb : Nat) (src : Bs) (a : Option Addr) (c : Nat) (l : List Wd) (R : List Value) (h : PSt w pb src a c l R) : Calls Tryz.prog 132 #[.pointer (some ⟨pb, 0, none⟩)] w (PPost w pb src a c R Rw (nextW l)) := by
  obtain ⟨k, hs⟩ := h.sc
  refine (scNext_any w pb 0 _ _ src a c l hs h.env).mono ?_
  rintro e w' ⟨hm, hp⟩
  cases hr : nextW l with
  | error f =>
    rw [hr] at hp
    exact ⟨hm, hp⟩
  | ok p =>
    obtain ⟨x, r⟩ := p
    rw [hr] at hp
    obtain ⟨he, j, hj⟩ := hp
    exact ⟨hm, he, ⟨j, by simpa using hj⟩, h.env.keep (hm.bel h.lt)⟩
set_option maxRecDepth 100000 in
set_option maxHeartbeats 1600000 in
theorem take_any (w : World) (pb : Nat) (src : Bs) (a : Option Addr) (c : Nat) (l : List Wd) (R : List Value) (kd : Int) (h : PSt w pb src a c l R) : Calls Tryz.prog 85 #[.pointer (some ⟨pb, 0, none⟩), .int .i32 kd] w (PPost w pb src a c R Rw (takeW kd l)) := by
  have HP := hidX h
  have hpb := h.lt
  clear h
  go_enter Tryz.func85, Tryz.ntmps85
  go_upto_region 1 with fail
  refine lift_alloc ?_
  intro w1 hW1 hq1
  have HPN := hidX (pnext_any w1 pb src a c l R (HP.out.below hW1))
  have M1 := hidX (MkO.of_below hW1 : MkO (some pb) w w1)
  have hrb : w.heap.size < w1.heap.size := lt_of_block' hq1
  obtain ⟨Z, hZ⟩ : ∃ Z : Array Value, Z = #[.int .i32 0, .int .i64 0, .string ⟨#[]⟩, .int .i64 0] := ⟨_, rfl⟩
  rw [← hZ] at hq1
  have hZs : Z.size = 4 := by rw [hZ]; rfl
  clear hW1 hZ
  cases hr : nextW l with
  | error f =>
    have HT : Hid (takeW kd l = .error f) := show _ = _ from by unfold takeW; rw [hr]
    rw [hr] at HPN
    go_wp2_with (first | (go_at_call 132; refine HPN.out.mono ?_; rintro e w2 ⟨hm2, rfl⟩; unfold fltE) | fail)
    exact ⟨rfl, PPost.err HT.out (M1.out.trans hm2)⟩
  | ok p =>
    obtain ⟨x, r⟩ := p
    rw [hr] at HPN
    go_upto_region 2 with (first | (go_at_call 132; refine HPN.out.mono ?_; rintro e w2 ⟨hm2, hw2, hp2⟩; replace hw2 : e = .returned (pwA x) := hw2; subst hw2; unfold pwA) | fail)
    refine lift_alloc ?_
    intro w3 hW3 hq3
    obtain ⟨L, X, HLX, hLl, hq3, y0⟩ := wd_box hq3
    have M3 := hidX ((M1.out.trans hm2).trans (MkO.of_below hW3))
    have P3 := hidX (hp2.below hW3)
    have hs2 := hm2.rest.size
    have hqr := (hW3.block w.heap.size (by omega)).trans ((hm2.block w.heap.size hrb (fun e => by injection e; omega)).trans hq1)
    have hl3 : w2.heap.size < w3.heap.size := lt_of_block' hq3
    clear hW3 hm2 hp2 hq1 HPN HP M1
    by_cases hk : X = kd
    · have HT : Hid (takeW kd l = .ok (x, r)) := show _ = _ from by unfold takeW; rw [hr]; simp [← HLX.out.1, hk]
      have e1 : (X != kd) = false := by simp [hk]
      clear hk
      go_wp2_with (first | (refine wpList_load_blk (by rfl) 131 (.tmp 5) (by rfl) w2.heap.size L (by rfl) 131 (0, 0) hq3 _ Tryz.underlying131 rfl hLl.1 ?_) | (refine wpList_store_blk (by rfl) 131 (.tmp 4) (.tmp 17) (by rfl) w.heap.size L (by rfl) (by rfl) _ 131 hqr (hZs.trans hLl.2.1.symm) hLl.1 hLl.2.2 ?_; intro w4 hb4 ht4) | fail)
      have hld := run_loadVar_mid (P := Tryz.prog) w4 w.heap.size 0 131 L _ (range_blk hb4.out) Tryz.underlying131 rfl hLl.1
      go_frame
      refine bodyPost_ret (v := .agg L.toArray) (by simp [results, Tryz.results85, asAddr, hld]) rfl (PPost.good HT.out (M3.out.turn ht4.out (Nat.le_refl _)) ?_ (P3.out.turned ht4.out (by omega)))
      rw [HLX.out.2]
      rfl
    · have HT : Hid (takeW kd l = .error (3, x.pos)) := show _ = _ from by unfold takeW; rw [hr]; simp [← HLX.out.1, hk]
      have e1 : (X != kd) = true := by simp [hk]
      have HF := hidX (fun u => (show Calls Tryz.prog 93 #[.agg L.toArray, .int .i64 3] u fun e w' => e = .returned (.agg #[.int .i64 3, .int .i64 (x.pos : Int)]) ∧ Below u.heap.size u w' from by rw [HLX.out.2]; exact wfault_any _ _ _ _ _ _))
      clear hk
      go_wp2_with (first | (refine wpList_load_blk (by rfl) 131 (.tmp 5) (by rfl) w2.heap.size L (by rfl) 131 (0, 0) hq3 _ Tryz.underlying131 rfl hLl.1 ?_) | (go_at_call 93; refine (HF.out _).mono ?_; rintro e w4 ⟨rfl, hb4⟩) | fail)
      exact ⟨rfl, PPost.err HT.out (M3.out.trans (MkO.of_below hb4))⟩
end Go.Proofs.YtjjjagepnnbebaaGreatDoor

namespace Go.Proofs.YtjjjagepnnbebaaGreatDoor
open Go.RowKit
attribute [local go_sem ↓] Go.wp_at_zero Go.wp_at_succ

def openW (n m : Int) (l : List Wd) : Px Wd := match nextW l with
  | .error f => .error f
  | .ok (x, _) => if pkW x = 40 ∧ m ≤ n then .error (4, x.pos) else takeW 40 l
def boundW (n m : Int) (l : List Wd) : Px Unit := match nextW l with
  | .error f => .error f
  | .ok (x, _) => if m ≤ n ∧ pkW x ≠ 41 ∧ pkW x ≠ 0 then .error (4, x.pos) else .ok ((), l)
def notT : Bs := [110, 111, 116]
def pClass (l : List Wd) : Px Bs := match takeW 97 l with
  | .error f => .error f
  | .ok (x, r) => if ptW x = notT then .error (3, x.pos) else .ok (ptW x, r)
def Rn {α : Type} (_ : α) (e : Ending) (_ : World) : Prop := e = .returned (.tuple #[])
def Rs1 (t : Bs) (e : Ending) (_ : World) : Prop := e = .returned (.string (mkS t))
theorem fault_L {L : List Value} {X : Int} {x : Wd} (h : Hid (X = pkW x ∧ L = pwL (pkW x) x.pos (ptW x) x.num)) (code : Int) (u : World) : Calls Tryz.prog 93 #[.agg L.toArray, .int .i64 code] u fun e w' => e = .returned (.agg #[.int .i64 code, .int .i64 (x.pos : Int)]) ∧ Below u.heap.size u w' := by
  rw [h.out.2]
  exact wfault_any _ _ _ _ _ _
theorem value_L {L : List Value} {X : Int} {x : Wd} (h : Hid (X = pkW x ∧ L = pwL (pkW x) x.pos (ptW x) x.num)) (u : World) : Calls Tryz.prog 133 #[.agg L.toArray] u fun e w' => e = .returned (.agg (wVal (pkW x) x.num (ptW x)).cells.toArray) ∧ Below u.heap.size u w' := by
  rw [h.out.2]
  exact wvalue_any _ _ _ _ _
theorem peek_A {w : World} {x : Wd} {r : List Wd} {e : Ending} {w' : World} (h : PkPost w (.ok (x, r)) e w') : Below w.heap.size w w' ∧ e = .returned (pwA x) := h
set_option maxRecDepth 100000 in
set_option maxHeartbeats 1600000 in
theorem open_any (w : World) (pb : Nat) (src : Bs) (a : Option Addr) (c : Nat) (l : List Wd) (R : List Value) (n m : Int) (h : PSt w pb src a c l R) : Calls Tryz.prog 47 #[.pointer (some ⟨pb, 0, none⟩), .int .i64 n, .int .i64 m] w (PPost w pb src a c R Rn (openW n m l)) := by
  have HP := hidX h
  obtain ⟨k, hs⟩ := h.sc
  have HPK := hidX (peek_any w pb k src a c l R hs h.env)
  have HRG := hidX hs.range
  clear h hs
  go_enter Tryz.func47, Tryz.ntmps47
  cases hr : nextW l with
  | error f =>
    have HT : Hid (openW n m l = .error f) := show _ = _ from by unfold openW; rw [hr]
    rw [hr] at HPK
    go_wp2_with (first | (refine wpList_load_mid (by rfl) 51 (.tmp 9) (by rfl) pb 0 (by rfl) [.slice a src.length c, .int .i64 (k : Int)] _ HRG.out Tryz.underlying51 rfl infoSc ?_) | (go_at_call 92; refine HPK.out.mono ?_; rintro e w2 ⟨hb2, rfl⟩; unfold fltE) | fail)
    exact ⟨rfl, PPost.err HT.out (MkO.of_below hb2)⟩
  | ok p =>
    obtain ⟨x, r⟩ := p
    rw [hr] at HPK
    go_upto_region 1 with (first | (refine wpList_load_mid (by rfl) 51 (.tmp 9) (by rfl) pb 0 (by rfl) [.slice a src.length c, .int .i64 (k : Int)] _ HRG.out Tryz.underlying51 rfl infoSc ?_) | (go_at_call 92; refine HPK.out.mono ?_; intro e w2 hp2; obtain ⟨hb2, hp2⟩ := peek_A hp2; subst hp2; unfold pwA) | fail)
    refine lift_alloc ?_
    intro w3 hW3 hq3
    obtain ⟨L, X, HLX, hLl, hq3, y0⟩ := wd_box hq3
    have HB3 := hidX (hb2.trans (hW3.mono hb2.size))
    clear hW3 hb2 HPK HRG
    by_cases hk : X = 40 ∧ m ≤ n
    · have HT : Hid (openW n m l = .error (4, x.pos)) := show _ = _ from by unfold openW; rw [hr]; simp only; rw [← HLX.out.1, if_pos hk]
      have e1 : (X == 40) = true := by simp [hk.1]
      have e2 : m ≤ n := hk.2
      clear hk
      go_wp2_with (first | (refine wpList_load_blk (by rfl) 131 (.tmp 6) (by rfl) w2.heap.size L (by rfl) 131 (0, 0) hq3 _ Tryz.underlying131 rfl hLl.1 ?_) | (go_at_call 93; refine (fault_L HLX 4 _).mono ?_; rintro e w4 ⟨rfl, hb4⟩) | fail)
      exact ⟨rfl, PPost.err HT.out (MkO.of_below (HB3.out.trans (hb4.mono HB3.out.size)))⟩
    · have HT : Hid (openW n m l = takeW 40 l) := show _ = _ from by unfold openW; rw [hr]; simp only; rw [← HLX.out.1, if_neg hk]
      have HTK := hidX (take_any w3 pb src a c l R 40 (HP.out.below HB3.out))
      have hor : (X == 40) = false ∨ ((X == 40) = true ∧ ¬ m ≤ n) := by
        by_cases h1 : X = 40
        · exact .inr ⟨by simp [h1], fun h2 => hk ⟨h1, h2⟩⟩
        · exact .inl (beqF h1)
      clear hk
      cases ht : takeW 40 l with
      | error f =>
        rw [ht] at HTK HT
        rcases hor with e1 | ⟨e1, e2⟩
        all_goals
          go_wp2_with (first | (go_at_call 85; refine HTK.out.mono ?_; rintro e w4 ⟨hm4, rfl⟩; unfold fltE) | fail)
          exact ⟨rfl, PPost.err HT.out ((MkO.of_below HB3.out).trans hm4)⟩
      | ok p =>
        obtain ⟨x', r'⟩ := p
        rw [ht] at HTK HT
        rcases hor with e1 | ⟨e1, e2⟩
        all_goals
          go_wp2_with (first | (go_at_call 85; refine HTK.out.mono ?_; rintro e w4 ⟨hm4, hw4, hp4⟩; replace hw4 : e = .returned (pwA x') := hw4; subst hw4) | fail)
          refine bodyPost_end (results_none rfl _ _ _) rfl (PPost.good HT.out ((MkO.of_below HB3.out).trans hm4) rfl hp4)
set_option maxRecDepth 100000 in
set_option maxHeartbeats 1600000 in
theorem bound_any (w : World) (pb : Nat) (src : Bs) (a : Option Addr) (c : Nat) (l : List Wd) (R : List Value) (n m : Int) (h : PSt w pb src a c l R) : Calls Tryz.prog 130 #[.pointer (some ⟨pb, 0, none⟩), .int .i64 n, .int .i64 m] w (PPost w pb src a c R Rn (boundW n m l)) := by
  have HP := hidX h
  obtain ⟨k, hs⟩ := h.sc
  have HPK := hidX (peek_any w pb k src a c l R hs h.env)
  have HRG := hidX hs.range
  clear h hs
  go_enter Tryz.func130, Tryz.ntmps130
  cases hr : nextW l with
  | error f =>
    have HT : Hid (boundW n m l = .error f) := show _ = _ from by unfold boundW; rw [hr]
    rw [hr] at HPK
    go_wp2_with (first | (refine wpList_load_mid (by rfl) 51 (.tmp 9) (by rfl) pb 0 (by rfl) [.slice a src.length c, .int .i64 (k : Int)] _ HRG.out Tryz.underlying51 rfl infoSc ?_) | (go_at_call 92; refine HPK.out.mono ?_; rintro e w2 ⟨hb2, rfl⟩; unfold fltE) | fail)
    exact ⟨rfl, PPost.err HT.out (MkO.of_below hb2)⟩
  | ok p =>
    obtain ⟨x, r⟩ := p
    rw [hr] at HPK
    go_upto_region 1 with (first | (refine wpList_load_mid (by rfl) 51 (.tmp 9) (by rfl) pb 0 (by rfl) [.slice a src.length c, .int .i64 (k : Int)] _ HRG.out Tryz.underlying51 rfl infoSc ?_) | (go_at_call 92; refine HPK.out.mono ?_; intro e w2 hp2; obtain ⟨hb2, hp2⟩ := peek_A hp2; subst hp2; unfold pwA) | fail)
    refine lift_alloc ?_
    intro w3 hW3 hq3
    obtain ⟨L, X, HLX, hLl, hq3, y0⟩ := wd_box hq3
    have HB3 := hidX (hb2.trans (hW3.mono hb2.size))
    clear hW3 hb2 HPK HRG
    by_cases hk : m ≤ n ∧ X ≠ 41 ∧ X ≠ 0
    · have HT : Hid (boundW n m l = .error (4, x.pos)) := show _ = _ from by unfold boundW; rw [hr]; simp only; rw [← HLX.out.1, if_pos hk]
      have e1 : (X != 41) = true := by simp [hk.2.1]
      have e2 : (X != 0) = true := by simp [hk.2.2]
      have e3 : m ≤ n := hk.1
      clear hk
      go_wp2_with (first | (refine wpList_load_blk (by rfl) 131 (.tmp 6) (by rfl) w2.heap.size L (by rfl) 131 (0, 0) hq3 _ Tryz.underlying131 rfl hLl.1 ?_) | (go_at_call 93; refine (fault_L HLX 4 _).mono ?_; rintro e w4 ⟨rfl, hb4⟩) | fail)
      exact ⟨rfl, PPost.err HT.out (MkO.of_below (HB3.out.trans (hb4.mono HB3.out.size)))⟩
    · have HT : Hid (boundW n m l = .ok ((), l)) := show _ = _ from by unfold boundW; rw [hr]; simp only; rw [← HLX.out.1, if_neg hk]
      have P3 := hidX (HP.out.below HB3.out)
      have hor : ¬ m ≤ n ∨ (m ≤ n ∧ (X != 41) = false) ∨ (m ≤ n ∧ (X != 41) = true ∧ (X != 0) = false) := by
        by_cases h1 : m ≤ n
        · by_cases h2 : X = 41
          · exact .inr (.inl ⟨h1, by simp [h2]⟩)
          · by_cases h3 : X = 0
            · exact .inr (.inr ⟨h1, by simp [h3], by simp [h3]⟩)
            · exact absurd ⟨h1, h2, h3⟩ hk
        · exact .inl h1
      clear hk
      rcases hor with e1 | ⟨e1, e2⟩ | ⟨e1, e2, e3⟩
      all_goals
        go_wp2_with fail
        exact bodyPost_end (results_none rfl _ _ _) rfl (PPost.good HT.out (MkO.of_below HB3.out) rfl P3.out)
theorem wd_text {w : World} {b : Nat} {x : Wd} {L : List Value} {X : Int} (h : Hid (X = pkW x ∧ L = pwL (pkW x) x.pos (ptW x) x.num)) (hq : w.heap[b]? = some (.cells L.toArray 131 (0, 0))) : w.cell? ⟨b, 2, none⟩ = some (.string (mkS (ptW x))) ∧ w.cell? ⟨b, 3, none⟩ = some (.int .i64 x.num) := by
  rw [h.out.2] at hq
  exact ⟨(cells4X hq).2.2.1, (cells4X hq).2.2.2⟩
set_option maxRecDepth 100000 in
set_option maxHeartbeats 1600000 in
theorem class_any (w : World) (pb : Nat) (src : Bs) (a : Option Addr) (c : Nat) (l : List Wd) (R : List Value) (h : PSt w pb src a c l R) : Calls Tryz.prog 81 #[.pointer (some ⟨pb, 0, none⟩)] w (PPost w pb src a c R Rs1 (pClass l)) := by
  have HTK := hidX (take_any w pb src a c l R 97 h)
  clear h
  go_enter Tryz.func81, Tryz.ntmps81
  cases hr : takeW 97 l with
  | error f =>
    have HT : Hid (pClass l = .error f) := show _ = _ from by unfold pClass; rw [hr]
    rw [hr] at HTK
    go_wp2_with (first | (go_at_call 85; refine HTK.out.mono ?_; rintro e w2 ⟨hm2, rfl⟩; unfold fltE) | fail)
    exact ⟨rfl, PPost.err HT.out hm2⟩
  | ok p =>
    obtain ⟨x, r⟩ := p
    rw [hr] at HTK
    go_upto_region 2 with (first | (go_at_call 85; refine HTK.out.mono ?_; rintro e w2 ⟨hm2, hw2, hp2⟩; replace hw2 : e = .returned (pwA x) := hw2; subst hw2; unfold pwA) | fail)
    refine lift_alloc ?_
    intro w3 hW3 hq3
    obtain ⟨L, X, HLX, hLl, hq3, y0⟩ := wd_box hq3
    have M3 := hidX (hm2.trans (MkO.of_below hW3))
    have P3 := hidX (hp2.below hW3)
    have y2 := (wd_text HLX hq3).1
    have hbq := beq_lit (mkS (ptW x)) notT
    rw [bs_mkS] at hbq
    clear hW3 hm2 hp2 HTK
    by_cases hk : ptW x = notT
    · have HT : Hid (pClass l = .error (3, x.pos)) := show _ = _ from by unfold pClass; rw [hr]; simp only; rw [if_pos hk]
      rw [decide_eq_true hk] at hbq
      replace hbq : ((mkS (ptW x)).toList == [110, 111, 116]) = true := hbq
      clear hk
      go_wp2_with (first | (refine wpList_load_blk (by rfl) 131 (.tmp 3) (by rfl) w2.heap.size L (by rfl) 131 (0, 0) hq3 _ Tryz.underlying131 rfl hLl.1 ?_) | (go_at_call 93; refine (fault_L HLX 3 _).mono ?_; rintro e w4 ⟨rfl, hb4⟩) | fail)
      exact ⟨rfl, PPost.err HT.out (M3.out.trans (MkO.of_below hb4))⟩
    · have HT : Hid (pClass l = .ok (ptW x, r)) := show _ = _ from by unfold pClass; rw [hr]; simp only; rw [if_neg hk]
      rw [decide_eq_false hk] at hbq
      replace hbq : ((mkS (ptW x)).toList == [110, 111, 116]) = false := hbq
      clear hk
      go_wp2_with fail
      go_ret
      exact PPost.good HT.out M3.out rfl P3.out
end Go.Proofs.YtjjjagepnnbebaaGreatDoor

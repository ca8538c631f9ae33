/-
  OUR OWN TEXT. Sx17, Sx18, Sx19, one behind the other.
-/
import Derived.Test.YtdhpoagjmiligaaGreatDoorKbb
import Derived.Test.YtdhpoagjmiligaaGreatDoorPx2m
import Derived.StringKeys
import Derived.Maps.Own
import Derived.Maps.OwnSet
import Derived.Maps.Views
import Derived.Maps.Keyed
import Derived.Test.YtdhpoagjmiligaaGreatDoorHwm
namespace Go.Proofs.YtdhpoagjmiligaaGreatDoor
open Go.RowKit
attribute [local go_sem ↓] Go.wp_at_zero Go.wp_at_succ

/-- A command, as plain data. -/
structure Cd where
  kind : Int
  n : Int
  cls : ByteArray
  slots : List V
def cAssert (l : List Wd) : Px Cd := andP (pClass l) fun t l1 => andP (pList pVal 6 l1) fun vs l2 => .ok (⟨1, 0, mkS t, vs⟩, l2)
def cModify (l : List Wd) : Px Cd := andP (takeW 48 l) fun x l1 => andP (pList pVal 6 l1) fun vs l2 => .ok (⟨3, x.num, mkS [], vs⟩, l2)
def cNum (kd : Int) (l : List Wd) : Px Cd := andP (takeW 48 l) fun x l1 => andP (takeW 41 l1) fun _ l2 => .ok (⟨kd, x.num, mkS [], []⟩, l2)
def cdL (x : Cd) (v : Value) : List Value := [.int .i64 x.kind, .int .i64 x.n, .string x.cls, v]
theorem cdL_one (x : Cd) (a : Option Addr) (n c : Nat) : ∀ v ∈ cdL x (.slice a n c), v.oneCell' = true := by
  intro u hu
  simp [cdL] at hu
  rcases hu with rfl | rfl | rfl | rfl <;> rfl
theorem infoCd : (Tryz.prog.info? 67).map (·.size) = some 4 := by kernel_rfl
/-- A command that is answered: its values lie in memory of its own. -/
def Rc (B : Nat) (x : Cd) (e : Ending) (w' : World) : Prop := ∃ la lc, e = .returned (.agg (cdL x (.slice la x.slots.length lc)).toArray) ∧ w'.ownsRow B 101 3 (.slice la x.slots.length lc) x.slots.length (x.slots.flatMap V.cells)
theorem own_turn {w w' : World} {base g : Nat} {e t : TypeId} {m : Nat} {v : Value} {n : Nat} {xs : List Value} {c : Array Value} (h : w.ownsRow base e m v n xs) (ht : Turned w w' g) (hb : w.heap[g]? = some (.cells c t (0, 0))) (hne : t ≠ e) : w'.ownsRow base e m v n xs :=
  owns_of_block h fun k hk => ht.block k (fun e => by
    subst e
    obtain ⟨c', hc'⟩ := own_type h hk
    exact own_far hb hc' hne)
set_option maxRecDepth 100000 in
set_option maxHeartbeats 3200000 in
theorem assert_any (w : World) (pb : Nat) (src : Bs) (a : Option Addr) (c : Nat) (l : List Wd) (R : List Value) (h : PSt w pb src a c l R) : Calls Tryz.prog 42 #[.pointer (some ⟨pb, 0, none⟩)] w (PPost w pb src a c R (Rc w.heap.size) (cAssert l)) := by
  have HP := hidX h
  have hpb := h.lt
  have hmf : ∀ (fn : Fn) (first cap : Array Value) (w : World), (Instr.makeFunc fn first cap).run Tryz.prog w = .ok (.func fn first cap) w := fun _ _ _ _ => rfl
  have hfd := wfield3
  clear h
  go_enter Tryz.func42, Tryz.ntmps42
  go_upto_region 1 with fail
  refine lift_alloc ?_
  intro w1 hW1 hq1
  have M1 := hidX (MkO.of_below hW1 : MkO (some pb) w w1)
  have P1 := hidX (HP.out.below hW1)
  have hrb : w.heap.size < w1.heap.size := lt_of_block' hq1
  obtain ⟨Z, hZ⟩ : ∃ Z : Array Value, Z = #[.int .i64 0, .int .i64 0, .string ⟨#[]⟩, .slice none 0 0] := ⟨_, rfl⟩
  rw [← hZ] at hq1
  have hZs : Z.size = 4 := by rw [hZ]; rfl
  clear hW1 hZ HP
  have HF := hidX (class_any w1 pb src a c l R P1.out)
  cases hr : pClass l with
  | error f =>
    have HT : Hid (cAssert l = .error f) := show _ = _ from by unfold cAssert andP; rw [hr]
    rw [hr] at HF
    go_wp2_with (first | (go_at_call 74; refine HF.out.mono ?_; rintro e w2 ⟨hm2, rfl⟩; unfold fltE) | fail)
    exact ⟨rfl, PPost.err HT.out (M1.out.trans hm2)⟩
  | ok p =>
    obtain ⟨x, l1⟩ := p
    rw [hr] at HF
    have HS := hidX (fun u (hu : PSt u pb src a c l1 R) => readVals_any u pb src a c l1 R hu)
    cases hs : pList pVal 6 l1 with
    | error f =>
      have HT : Hid (cAssert l = .error f) := show _ = _ from by unfold cAssert andP; rw [hr]; simp only; rw [hs]
      rw [hs] at HS
      go_wp2_with (first | (go_at_call 74; refine HF.out.mono ?_; rintro e w2 ⟨hm2, hw2, hp2⟩; replace hw2 : e = .returned (.string (mkS x)) := hw2; subst hw2) | (go_at_call 79; refine (HS.out _ hp2).mono ?_; rintro e w3 ⟨hm3, rfl⟩; unfold fltE) | fail)
      exact ⟨rfl, PPost.err HT.out ((M1.out.trans hm2).trans hm3)⟩
    | ok q =>
      obtain ⟨y, l2⟩ := q
      rw [hs] at HS
      have HT : Hid (cAssert l = .ok (⟨1, 0, mkS x, y⟩, l2)) := show _ = _ from by unfold cAssert andP; rw [hr]; simp only; rw [hs]
      go_wp2_with (first | (go_at_call 74; refine HF.out.mono ?_; rintro e w2 ⟨hm2, hw2, hp2⟩; replace hw2 : e = .returned (.string (mkS x)) := hw2; subst hw2; have hq2 := (hm2.block w.heap.size hrb (fun e => by injection e; omega)).trans hq1) | (go_at_call 79; refine (HS.out _ hp2).mono ?_; rintro e w3 ⟨hm3, ⟨la, lc, rfl, ho3⟩, hp3⟩; have hs2 := hm2.rest.size; have hs3 := hm3.rest.size; have hq3 := (hm3.block w.heap.size (by omega) (fun e => by injection e; omega)).trans hq2) | (refine wpList_store_blk (by rfl) 67 (.tmp 2) (.tmp 9) (by rfl) w.heap.size (cdL ⟨1, 0, mkS x, y⟩ (.slice la y.length lc)) (by rfl) (by rfl) _ 67 hq3 hZs infoCd (cdL_one _ _ _ _) ?_; intro w5 hb5 ht5) | fail)
      have hld := run_loadVar_mid (P := Tryz.prog) w5 w.heap.size 0 67 (cdL ⟨1, 0, mkS x, y⟩ (.slice la y.length lc)) _ (range_blk hb5.out) Tryz.underlying67 rfl infoCd
      go_frame
      exact bodyPost_ret (v := .agg (cdL ⟨1, 0, mkS x, y⟩ (.slice la y.length lc)).toArray) (by simp [results, Tryz.results42, asAddr, hld]) rfl (PPost.good HT.out (((M1.out.trans hm2).trans hm3).turn ht5.out (Nat.le_refl _)) ⟨la, lc, rfl, own_turn (owns_base ho3 (by omega)) ht5.out hq3 (by decide)⟩ (hp3.turned ht5.out (by omega)))
set_option maxRecDepth 100000 in
set_option maxHeartbeats 3200000 in
theorem modify_any (w : World) (pb : Nat) (src : Bs) (a : Option Addr) (c : Nat) (l : List Wd) (R : List Value) (h : PSt w pb src a c l R) : Calls Tryz.prog 44 #[.pointer (some ⟨pb, 0, none⟩)] w (PPost w pb src a c R (Rc w.heap.size) (cModify l)) := by
  have HP := hidX h
  have hpb := h.lt
  have hmf : ∀ (fn : Fn) (first cap : Array Value) (w : World), (Instr.makeFunc fn first cap).run Tryz.prog w = .ok (.func fn first cap) w := fun _ _ _ _ => rfl
  have hfd := wfield3
  clear h
  go_enter Tryz.func44, Tryz.ntmps44
  go_upto_region 1 with fail
  refine lift_alloc ?_
  intro w1 hW1 hq1
  have M1 := hidX (MkO.of_below hW1 : MkO (some pb) w w1)
  have P1 := hidX (HP.out.below hW1)
  have hrb : w.heap.size < w1.heap.size := lt_of_block' hq1
  obtain ⟨Z, hZ⟩ : ∃ Z : Array Value, Z = #[.int .i64 0, .int .i64 0, .string ⟨#[]⟩, .slice none 0 0] := ⟨_, rfl⟩
  rw [← hZ] at hq1
  have hZs : Z.size = 4 := by rw [hZ]; rfl
  clear hW1 hZ HP
  have HF := hidX (take_any w1 pb src a c l R 48 P1.out)
  cases hr : takeW 48 l with
  | error f =>
    have HT : Hid (cModify l = .error f) := show _ = _ from by unfold cModify andP; rw [hr]
    rw [hr] at HF
    go_wp2_with (first | (go_at_call 78; refine HF.out.mono ?_; rintro e w2 ⟨hm2, rfl⟩; unfold fltE) | fail)
    exact ⟨rfl, PPost.err HT.out (M1.out.trans hm2)⟩
  | ok p =>
    obtain ⟨x, l1⟩ := p
    rw [hr] at HF
    have HS := hidX (fun u (hu : PSt u pb src a c l1 R) => readVals_any u pb src a c l1 R hu)
    cases hs : pList pVal 6 l1 with
    | error f =>
      have HT : Hid (cModify l = .error f) := show _ = _ from by unfold cModify andP; rw [hr]; simp only; rw [hs]
      rw [hs] at HS
      go_wp2_with (first | (go_at_call 78; refine HF.out.mono ?_; rintro e w2 ⟨hm2, hw2, hp2⟩; replace hw2 : e = .returned (pwA x) := hw2; subst hw2; unfold pwA) | (go_at_call 79; refine (HS.out _ hp2).mono ?_; rintro e w3 ⟨hm3, rfl⟩; unfold fltE) | fail)
      exact ⟨rfl, PPost.err HT.out ((M1.out.trans hm2).trans hm3)⟩
    | ok q =>
      obtain ⟨y, l2⟩ := q
      rw [hs] at HS
      have HT : Hid (cModify l = .ok (⟨3, x.num, mkS [], y⟩, l2)) := show _ = _ from by unfold cModify andP; rw [hr]; simp only; rw [hs]
      go_wp2_with (first | (go_at_call 78; refine HF.out.mono ?_; rintro e w2 ⟨hm2, hw2, hp2⟩; replace hw2 : e = .returned (pwA x) := hw2; subst hw2; unfold pwA; have hq2 := (hm2.block w.heap.size hrb (fun e => by injection e; omega)).trans hq1) | (go_at_call 79; refine (HS.out _ hp2).mono ?_; rintro e w3 ⟨hm3, ⟨la, lc, rfl, ho3⟩, hp3⟩; have hs2 := hm2.rest.size; have hs3 := hm3.rest.size; have hq3 := (hm3.block w.heap.size (by omega) (fun e => by injection e; omega)).trans hq2) | (refine wpList_store_blk (by rfl) 67 (.tmp 2) (.tmp 10) (by rfl) w.heap.size (cdL ⟨3, x.num, mkS [], y⟩ (.slice la y.length lc)) (by rfl) (by rfl) _ 67 hq3 hZs infoCd (cdL_one _ _ _ _) ?_; intro w5 hb5 ht5) | fail)
      have hld := run_loadVar_mid (P := Tryz.prog) w5 w.heap.size 0 67 (cdL ⟨3, x.num, mkS [], y⟩ (.slice la y.length lc)) _ (range_blk hb5.out) Tryz.underlying67 rfl infoCd
      go_frame
      exact bodyPost_ret (v := .agg (cdL ⟨3, x.num, mkS [], y⟩ (.slice la y.length lc)).toArray) (by simp [results, Tryz.results44, asAddr, hld]) rfl (PPost.good HT.out (((M1.out.trans hm2).trans hm3).turn ht5.out (Nat.le_refl _)) ⟨la, lc, rfl, own_turn (owns_base ho3 (by omega)) ht5.out hq3 (by decide)⟩ (hp3.turned ht5.out (by omega)))
set_option maxRecDepth 100000 in
set_option maxHeartbeats 3200000 in
theorem retract_any (w : World) (pb : Nat) (src : Bs) (a : Option Addr) (c : Nat) (l : List Wd) (R : List Value) (h : PSt w pb src a c l R) : Calls Tryz.prog 43 #[.pointer (some ⟨pb, 0, none⟩)] w (PPost w pb src a c R (Rc w.heap.size) (cNum 2 l)) := by
  have HP := hidX h
  have hpb := h.lt
  have hmf : ∀ (fn : Fn) (first cap : Array Value) (w : World), (Instr.makeFunc fn first cap).run Tryz.prog w = .ok (.func fn first cap) w := fun _ _ _ _ => rfl
  have hfd := wfield3
  clear h
  go_enter Tryz.func43, Tryz.ntmps43
  go_upto_region 1 with fail
  refine lift_alloc ?_
  intro w1 hW1 hq1
  have M1 := hidX (MkO.of_below hW1 : MkO (some pb) w w1)
  have P1 := hidX (HP.out.below hW1)
  have hrb : w.heap.size < w1.heap.size := lt_of_block' hq1
  obtain ⟨Z, hZ⟩ : ∃ Z : Array Value, Z = #[.int .i64 0, .int .i64 0, .string ⟨#[]⟩, .slice none 0 0] := ⟨_, rfl⟩
  rw [← hZ] at hq1
  have hZs : Z.size = 4 := by rw [hZ]; rfl
  clear hW1 hZ HP
  have HF := hidX (take_any w1 pb src a c l R 48 P1.out)
  cases hr : takeW 48 l with
  | error f =>
    have HT : Hid (cNum 2 l = .error f) := show _ = _ from by unfold cNum andP; rw [hr]
    rw [hr] at HF
    go_wp2_with (first | (go_at_call 78; refine HF.out.mono ?_; rintro e w2 ⟨hm2, rfl⟩; unfold fltE) | fail)
    exact ⟨rfl, PPost.err HT.out (M1.out.trans hm2)⟩
  | ok p =>
    obtain ⟨x, l1⟩ := p
    rw [hr] at HF
    have HS := hidX (fun u (hu : PSt u pb src a c l1 R) => take_any u pb src a c l1 R 41 hu)
    go_upto_region 2 with (first | (go_at_call 78; refine HF.out.mono ?_; rintro e w2 ⟨hm2, hw2, hp2⟩; replace hw2 : e = .returned (pwA x) := hw2; subst hw2; unfold pwA) | fail)
    refine lift_alloc ?_
    intro w3 hW3 hq3
    replace hq3 : w3.heap[w2.heap.size]? = some (.cells (cdL ⟨2, x.num, mkS [], []⟩ (.slice none 0 0)).toArray 67 (0, 0)) := hq3
    have hp3 := hp2.below hW3
    have hs2 := hm2.rest.size
    have hl3 : w2.heap.size < w3.heap.size := lt_of_block' hq3
    have hqr := (hW3.block w.heap.size (by omega)).trans ((hm2.block w.heap.size hrb (fun e => by injection e; omega)).trans hq1)
    have M3 := hidX ((M1.out.trans hm2).trans (MkO.of_below hW3))
    clear hW3 hm2 hp2
    cases hs : takeW 41 l1 with
    | error f =>
      have HT : Hid (cNum 2 l = .error f) := show _ = _ from by unfold cNum andP; rw [hr]; simp only; rw [hs]
      rw [hs] at HS
      go_wp2_with (first | (go_at_call 78; refine (HS.out _ hp3).mono ?_; rintro e w4 ⟨hm4, rfl⟩; unfold fltE) | fail)
      exact ⟨rfl, PPost.err HT.out (M3.out.trans hm4)⟩
    | ok q =>
      obtain ⟨y, l2⟩ := q
      rw [hs] at HS
      have HT : Hid (cNum 2 l = .ok (⟨2, x.num, mkS [], []⟩, l2)) := show _ = _ from by unfold cNum andP; rw [hr]; simp only; rw [hs]
      go_wp2_with (first | (go_at_call 78; refine (HS.out _ hp3).mono ?_; rintro e w4 ⟨hm4, hw4, hp4⟩; replace hw4 : e = .returned (pwA y) := hw4; subst hw4; have hs4 := hm4.rest.size; have hq4 := (hm4.block w2.heap.size hl3 (fun e => by injection e; omega)).trans hq3; have hqr4 := (hm4.block w.heap.size (by omega) (fun e => by injection e; omega)).trans hqr) | (refine wpList_load_blk (by rfl) 67 (.tmp 3) (by rfl) w2.heap.size (cdL ⟨2, x.num, mkS [], []⟩ (.slice none 0 0)) (by rfl) 67 (0, 0) hq4 _ Tryz.underlying67 rfl infoCd ?_) | (refine wpList_store_blk (by rfl) 67 (.tmp 2) (.tmp 10) (by rfl) w.heap.size (cdL ⟨2, x.num, mkS [], []⟩ (.slice none 0 0)) (by rfl) (by rfl) _ 67 hqr4 hZs infoCd (cdL_one _ _ _ _) ?_; intro w5 hb5 ht5) | fail)
      have hld := run_loadVar_mid (P := Tryz.prog) w5 w.heap.size 0 67 (cdL ⟨2, x.num, mkS [], []⟩ (.slice none 0 0)) _ (range_blk hb5.out) Tryz.underlying67 rfl infoCd
      go_frame
      exact bodyPost_ret (v := .agg (cdL ⟨2, x.num, mkS [], []⟩ (.slice none 0 0)).toArray) (by simp [results, Tryz.results43, asAddr, hld]) rfl (PPost.good HT.out ((M3.out.trans hm4).turn ht5.out (Nat.le_refl _)) ⟨none, 0, rfl, World.ownsRow_nil _ _ _ _⟩ (hp4.turned ht5.out (by omega)))
set_option maxRecDepth 100000 in
set_option maxHeartbeats 3200000 in
theorem run_any (w : World) (pb : Nat) (src : Bs) (a : Option Addr) (c : Nat) (l : List Wd) (R : List Value) (h : PSt w pb src a c l R) : Calls Tryz.prog 45 #[.pointer (some ⟨pb, 0, none⟩)] w (PPost w pb src a c R (Rc w.heap.size) (cNum 4 l)) := by
  have HP := hidX h
  have hpb := h.lt
  have hmf : ∀ (fn : Fn) (first cap : Array Value) (w : World), (Instr.makeFunc fn first cap).run Tryz.prog w = .ok (.func fn first cap) w := fun _ _ _ _ => rfl
  have hfd := wfield3
  clear h
  go_enter Tryz.func45, Tryz.ntmps45
  go_upto_region 1 with fail
  refine lift_alloc ?_
  intro w1 hW1 hq1
  have M1 := hidX (MkO.of_below hW1 : MkO (some pb) w w1)
  have P1 := hidX (HP.out.below hW1)
  have hrb : w.heap.size < w1.heap.size := lt_of_block' hq1
  obtain ⟨Z, hZ⟩ : ∃ Z : Array Value, Z = #[.int .i64 0, .int .i64 0, .string ⟨#[]⟩, .slice none 0 0] := ⟨_, rfl⟩
  rw [← hZ] at hq1
  have hZs : Z.size = 4 := by rw [hZ]; rfl
  clear hW1 hZ HP
  have HF := hidX (take_any w1 pb src a c l R 48 P1.out)
  cases hr : takeW 48 l with
  | error f =>
    have HT : Hid (cNum 4 l = .error f) := show _ = _ from by unfold cNum andP; rw [hr]
    rw [hr] at HF
    go_wp2_with (first | (go_at_call 78; refine HF.out.mono ?_; rintro e w2 ⟨hm2, rfl⟩; unfold fltE) | fail)
    exact ⟨rfl, PPost.err HT.out (M1.out.trans hm2)⟩
  | ok p =>
    obtain ⟨x, l1⟩ := p
    rw [hr] at HF
    have HS := hidX (fun u (hu : PSt u pb src a c l1 R) => take_any u pb src a c l1 R 41 hu)
    go_upto_region 2 with (first | (go_at_call 78; refine HF.out.mono ?_; rintro e w2 ⟨hm2, hw2, hp2⟩; replace hw2 : e = .returned (pwA x) := hw2; subst hw2; unfold pwA) | fail)
    refine lift_alloc ?_
    intro w3 hW3 hq3
    replace hq3 : w3.heap[w2.heap.size]? = some (.cells (cdL ⟨4, x.num, mkS [], []⟩ (.slice none 0 0)).toArray 67 (0, 0)) := hq3
    have hp3 := hp2.below hW3
    have hs2 := hm2.rest.size
    have hl3 : w2.heap.size < w3.heap.size := lt_of_block' hq3
    have hqr := (hW3.block w.heap.size (by omega)).trans ((hm2.block w.heap.size hrb (fun e => by injection e; omega)).trans hq1)
    have M3 := hidX ((M1.out.trans hm2).trans (MkO.of_below hW3))
    clear hW3 hm2 hp2
    cases hs : takeW 41 l1 with
    | error f =>
      have HT : Hid (cNum 4 l = .error f) := show _ = _ from by unfold cNum andP; rw [hr]; simp only; rw [hs]
      rw [hs] at HS
      go_wp2_with (first | (go_at_call 78; refine (HS.out _ hp3).mono ?_; rintro e w4 ⟨hm4, rfl⟩; unfold fltE) | fail)
      exact ⟨rfl, PPost.err HT.out (M3.out.trans hm4)⟩
    | ok q =>
      obtain ⟨y, l2⟩ := q
      rw [hs] at HS
      have HT : Hid (cNum 4 l = .ok (⟨4, x.num, mkS [], []⟩, l2)) := show _ = _ from by unfold cNum andP; rw [hr]; simp only; rw [hs]
      go_wp2_with (first | (go_at_call 78; refine (HS.out _ hp3).mono ?_; rintro e w4 ⟨hm4, hw4, hp4⟩; replace hw4 : e = .returned (pwA y) := hw4; subst hw4; have hs4 := hm4.rest.size; have hq4 := (hm4.block w2.heap.size hl3 (fun e => by injection e; omega)).trans hq3; have hqr4 := (hm4.block w.heap.size (by omega) (fun e => by injection e; omega)).trans hqr) | (refine wpList_load_blk (by rfl) 67 (.tmp 3) (by rfl) w2.heap.size (cdL ⟨4, x.num, mkS [], []⟩ (.slice none 0 0)) (by rfl) 67 (0, 0) hq4 _ Tryz.underlying67 rfl infoCd ?_) | (refine wpList_store_blk (by rfl) 67 (.tmp 2) (.tmp 10) (by rfl) w.heap.size (cdL ⟨4, x.num, mkS [], []⟩ (.slice none 0 0)) (by rfl) (by rfl) _ 67 hqr4 hZs infoCd (cdL_one _ _ _ _) ?_; intro w5 hb5 ht5) | fail)
      have hld := run_loadVar_mid (P := Tryz.prog) w5 w.heap.size 0 67 (cdL ⟨4, x.num, mkS [], []⟩ (.slice none 0 0)) _ (range_blk hb5.out) Tryz.underlying67 rfl infoCd
      go_frame
      exact bodyPost_ret (v := .agg (cdL ⟨4, x.num, mkS [], []⟩ (.slice none 0 0)).toArray) (by simp [results, Tryz.results45, asAddr, hld]) rfl (PPost.good HT.out ((M3.out.trans hm4).turn ht5.out (Nat.le_refl _)) ⟨none, 0, rfl, World.ownsRow_nil _ _ _ _⟩ (hp4.turned ht5.out (by omega)))
end Go.Proofs.YtdhpoagjmiligaaGreatDoor

namespace Go.Proofs.YtdhpoagjmiligaaGreatDoor
open Go.RowKit Go.Maps
attribute [local go_sem ↓] Go.wp_at_zero Go.wp_at_succ

/-- A method of the parser, as an element; nil. -/
def fnR (pb : Nat) (v : Value) : Option (DataW Unit × List MemPlace) := match v with
  | .nilFunc => some (.lit (.bool true), [])
  | .func (.func i) a b => match a.toList, b.toList with
    | [.pointer (some ⟨q, 0, none⟩)], [] => if q = pb then some (.lit (.int .i64 (i : Int)), []) else none
    | _, _ => none
  | _ => none
def mth (pb i : Nat) : Value := .func (.func i) #[.pointer (some ⟨pb, 0, none⟩)] #[]
theorem fnR_mth (pb i : Nat) : fnR pb (mth pb i) = some (.lit (.int .i64 (i : Int)), []) := by
  simp [fnR, mth]
theorem fnR_nil {pb : Nat} {v : Value} {ps : List MemPlace} (h : fnR pb v = some (.lit (.bool true), ps)) : v = .nilFunc := by
  unfold fnR at h
  split at h
  · rfl
  · split at h
    · split at h
      · injection h with h
        injection h with h
        injection h with h
        cases h
      · cases h
    · cases h
  · cases h
theorem fnR_inv {pb i : Nat} {v : Value} {ps : List MemPlace} (h : fnR pb v = some (.lit (.int .i64 (i : Int)), ps)) : v = mth pb i := by
  unfold fnR at h
  split at h
  · injection h with h
    injection h with h
    injection h with h
    cases h
  · rename_i j a b
    split at h
    · rename_i q ha hb
      split at h
      · rename_i hq
        simp only [Option.some.injEq, Prod.mk.injEq, DataW.lit.injEq, Lit.int.injEq, true_and] at h
        subst hq
        have e1 : a = #[.pointer (some ⟨q, 0, none⟩)] := by
          apply Array.ext'
          simpa using ha
        have e2 : b = #[] := by
          apply Array.ext'
          simpa using hb
        have hj : j = i := Int.ofNat_inj.1 h.1
        rw [e1, e2, hj]
        rfl
      · cases h
    · cases h
  · cases h
/-- The map answers f. -/
def FInv (f : Bs → Option Nat) (D : DataW Unit) : Prop := ∀ s : Bs, (has D (.string s) = (f s).isSome) ∧ ∀ i z, f s = some i → D.atKey (.string s) z = .lit (.int .i64 (i : Int))
theorem FInv.start : FInv (fun _ => none) (.map []) := fun _ => ⟨rfl, fun _ _ h => by cases h⟩
theorem FInv.put {f : Bs → Option Nat} {D : DataW Unit} (h : FInv f D) (hm : IsMap D) (k : Bs) (i : Nat) : FInv (fun s => if s = k then some i else f s) (D.put (.string k) (.lit (.int .i64 (i : Int)))) := by
  intro s
  by_cases hs : s = k
  · subst hs
    refine ⟨?_, fun j z hj => ?_⟩
    · rw [has_put_same hm (k := .string s) trivial]
      simp
    · simp at hj
      subst hj
      rw [atKey_put_same hm (k := .string s) trivial]
  · have hne : (Lit.string s) ≠ .string k := fun e => hs (by injection e)
    refine ⟨?_, fun j z hj => ?_⟩
    · rw [has_put_other hne, (h s).1]
      simp [hs]
    · rw [atKey_put_other hne]
      exact (h s).2 j z (by simpa [hs] using hj)
def FnMap (w : World) (pb mb : Nat) (f : Bs → Option Nat) : Prop := ∃ n D, n ≤ 8 ∧ w.ownsMap Tryz.prog 9 (fnR pb) mb n D ∧ FInv f D
theorem FnMap.block {w w' : World} {pb mb : Nat} {f : Bs → Option Nat} (h : FnMap w pb mb f) (hb : w'.heap[mb]? = w.heap[mb]?) : FnMap w' pb mb f := by
  obtain ⟨n, D, hn, ⟨es, ck, h1, h2⟩, hf⟩ := h
  exact ⟨n, D, hn, ⟨es, ck, hb.trans h1, h2⟩, hf⟩
theorem FnMap.lt {w : World} {pb mb : Nat} {f : Bs → Option Nat} (h : FnMap w pb mb f) : mb < w.heap.size := by
  obtain ⟨n, D, _, ⟨es, ck, h1, _⟩, _⟩ := h
  exact lt_of_block' h1
theorem FnMap.mko {w w' : World} {pb mb : Nat} {f : Bs → Option Nat} (h : FnMap w pb mb f) (hm : MkO (some pb) w w') (hne : pb ≠ mb) : FnMap w' pb mb f := h.block (hm.block mb h.lt (fun e => hne (by injection e)))
theorem lawSx : Keyed Tryz.prog 9 := string_keyed Tryz.underlying9
theorem look_fn {w : World} {pb mb : Nat} {f : Bs → Option Nat} {t e : TypeId} (ht : Tryz.prog.underlying t = some (.map 9 e)) (hz : ∀ w, (zeroValue e).run Tryz.prog w = .ok .nilFunc w) (h : FnMap w pb mb f) {s : Bs} (hs : s.length ≤ 20000) :
    (Instr.lookup t (.map (some mb)) (.string (mkS s)) true).run Tryz.prog w = .ok (.tuple #[(match f s with | some i => mth pb i | none => .nilFunc), .bool (f s).isSome]) w := by
  obtain ⟨n, D, _, ho, hf⟩ := h
  have hsz : (mkS s).size ≤ maxLen := by rw [mkS_size]; unfold maxLen; omega
  obtain ⟨v, ps, hrun, hv⟩ := ho.look_ok lawSx (t := t) ht (hz w) (show fnR pb .nilFunc = some (.lit (.bool true), []) from rfl) (Go.WideMaps.keyOf_string_mk Tryz.underlying9 hsz)
  have e0 : (mkS s).data.toList = s := rfl
  rw [e0] at hrun hv
  rw [hrun, (hf s).1]
  cases hfs : f s with
  | none =>
    have hh : has D (.string s) = false := by rw [(hf s).1, hfs]; rfl
    rw [atKey_of_not_has hh] at hv
    rw [fnR_nil hv]
  | some i =>
    rw [(hf s).2 i _ hfs] at hv
    rw [fnR_inv hv]
def assertT : Bs := [97, 115, 115, 101, 114, 116]
def retractT : Bs := [114, 101, 116, 114, 97, 99, 116]
def modifyT : Bs := [109, 111, 100, 105, 102, 121]
def runT : Bs := [114, 117, 110]
def cmdF (s : Bs) : Option Nat := if s = runT then some 45 else if s = modifyT then some 44 else if s = retractT then some 43 else if s = assertT then some 42 else none
def pCmd (l : List Wd) : Px Cd := andP (takeW 97 l) fun x l1 => if ptW x = runT then cNum 4 l1 else if ptW x = modifyT then cModify l1 else if ptW x = retractT then cNum 2 l1 else if ptW x = assertT then cAssert l1 else .error (3, x.pos)
theorem zeroCF (w : World) : (zeroValue 143).run Tryz.prog w = .ok .nilFunc w := by kernel_rfl
theorem takeW_ok {kd : Int} {l r : List Wd} {x : Wd} (h : takeW kd l = .ok (x, r)) : nextW l = .ok (x, r) ∧ pkW x = kd := by
  unfold takeW at h
  cases hr : nextW l with
  | error f => rw [hr] at h; cases h
  | ok p =>
    obtain ⟨y, t⟩ := p
    rw [hr] at h
    simp only at h
    by_cases hk : pkW y = kd
    · rw [if_pos hk] at h
      injection h with h
      rw [h]
      injection h with h1 h2
      subst h1
      exact ⟨rfl, hk⟩
    · rw [if_neg hk] at h
      cases h
theorem PSt.text {w : World} {pb : Nat} {src : Bs} {a : Option Addr} {c : Nat} {l r : List Wd} {R : List Value} {x : Wd} (h : PSt w pb src a c l R) (hr : nextW l = .ok (x, r)) : (ptW x).length ≤ 20000 := by
  obtain ⟨k, hs⟩ := h.sc
  obtain ⟨k', hk', _, hw⟩ := hs.pos
  have h1 := ((wordsAt_ok src k' hk').1 x (by rw [hw]; exact nextW_mem hr)).2
  have h2 := ptW_le x
  have h3 := hs.len
  omega
theorem PSt.cell {w : World} {pb j : Nat} {src : Bs} {a : Option Addr} {c : Nat} {l : List Wd} {R : List Value} {v : Value} (h : PSt w pb src a c l R) (hj : R[j]? = some v) : w.cell? ⟨pb, j + 2, none⟩ = some v := by
  obtain ⟨k, hs⟩ := h.sc
  simp [World.cell?, hs.blk, hj]
set_option maxRecDepth 100000 in
set_option maxHeartbeats 3200000 in
theorem command_any (w : World) (pb mb : Nat) (src : Bs) (a : Option Addr) (c : Nat) (l : List Wd) (R : List Value) (h : PSt w pb src a c l R) (hR : R[1]? = some (.map (some mb))) (hM : FnMap w pb mb cmdF) (hne : pb < mb) : Calls Tryz.prog 62 #[.pointer (some ⟨pb, 0, none⟩)] w (PPost w pb src a c R (Rc w.heap.size) (pCmd l)) := by
  have HP := hidX h
  have HM := hidX hM
  have hpb := h.lt
  clear h hM
  go_enter Tryz.func62, Tryz.ntmps62
  go_upto_region 1 with fail
  refine lift_alloc ?_
  intro w1 hW1 hq1
  have M1 := hidX (MkO.of_below hW1 : MkO (some pb) w w1)
  have HF := hidX (take_any w1 pb src a c l R 97 (HP.out.below hW1))
  have hrb : w.heap.size < w1.heap.size := lt_of_block' hq1
  obtain ⟨Z, hZ⟩ : ∃ Z : Array Value, Z = #[.int .i64 0, .int .i64 0, .string ⟨#[]⟩, .slice none 0 0] := ⟨_, rfl⟩
  rw [← hZ] at hq1
  have hZs : Z.size = 4 := by rw [hZ]; rfl
  clear hW1 hZ
  cases hr : takeW 97 l with
  | error f =>
    have HT : Hid (pCmd l = .error f) := show _ = _ from by unfold pCmd andP; rw [hr]
    rw [hr] at HF
    go_wp2_with (first | (go_at_call 78; refine HF.out.mono ?_; rintro e w2 ⟨hm2, rfl⟩; unfold fltE) | fail)
    exact ⟨rfl, PPost.err HT.out (M1.out.trans hm2)⟩
  | ok p =>
    obtain ⟨x, l1⟩ := p
    rw [hr] at HF
    have hxl := HP.out.text (takeW_ok hr).1
    have HPC : Hid (pCmd l = if ptW x = runT then cNum 4 l1 else if ptW x = modifyT then cModify l1 else if ptW x = retractT then cNum 2 l1 else if ptW x = assertT then cAssert l1 else .error (3, x.pos)) := show _ = _ from by unfold pCmd andP; rw [hr]
    go_upto_region 2 with (first | (go_at_call 78; refine HF.out.mono ?_; rintro e w2 ⟨hm2, hw2, hp2⟩; replace hw2 : e = .returned (pwA x) := hw2; subst hw2; unfold pwA) | fail)
    refine lift_alloc ?_
    intro w3 hW3 hq3
    obtain ⟨L, X, HLX, hLl, hq3, y0⟩ := wd_box hq3
    have M3 := hidX ((M1.out.trans hm2).trans (MkO.of_below hW3))
    have P3 := hidX (hp2.below hW3)
    have y2 := (wd_text HLX hq3).1
    have hs2 := hm2.rest.size
    have hqr := (hW3.block w.heap.size (by omega)).trans ((hm2.block w.heap.size hrb (fun e => by injection e; omega)).trans hq1)
    have hl3 : w2.heap.size < w3.heap.size := lt_of_block' hq3
    have c3 := P3.out.cell hR
    have hlk := look_fn (t := 60) Tryz.underlying60 zeroCF (HM.out.mko M3.out (Nat.ne_of_lt hne)) hxl
    have hlkd := look_fn (w := w3.drew) (t := 60) Tryz.underlying60 zeroCF (HM.out.mko M3.out.drew (Nat.ne_of_lt hne)) hxl
    clear hW3 hm2 hp2 hq1 HF M1 y0
    by_cases k1 : ptW x = runT
    · have hcf : cmdF (ptW x) = some 45 := by unfold cmdF; rw [if_pos k1]
      have HC : Hid (pCmd l = cNum 4 l1) := show _ = _ from by rw [HPC.out]; rw [if_pos k1]
      rw [hcf] at hlk hlkd
      unfold mth at hlk hlkd
      simp only [Option.isSome_some] at hlk hlkd
      have HS := hidX (fun u (hu : PSt u pb src a c l1 R) => run_any u pb src a c l1 R hu)
      clear hcf k1
      go_wp2_with fail
      go_region
      cases hs : cNum 4 l1 with
      | error f =>
        rw [hs] at HS HC
        go_wp2_with (first | (go_at_call 45; refine (HS.out _ (P3.out.below ((Below.refl _ _).drew))).mono ?_; rintro e w4 ⟨hm4, rfl⟩; unfold fltE) | fail)
        exact ⟨rfl, PPost.err HC.out (M3.out.drew.trans hm4)⟩
      | ok q =>
        obtain ⟨y, l2⟩ := q
        rw [hs] at HS HC
        go_wp2_with (first | (go_at_call 45; refine (HS.out _ (P3.out.below ((Below.refl _ _).drew))).mono ?_; rintro e w4 ⟨hm4, ⟨la, lc, rfl, ho4⟩, hp4⟩; have hs4 := hm4.rest.size; have hq4 := (hm4.block w.heap.size (by simp; omega) (fun e => by injection e; omega)).trans hqr) | (refine wpList_store_blk (by rfl) 67 (.tmp 2) (.tmp 24) (by rfl) w.heap.size (cdL y (.slice la y.slots.length lc)) (by rfl) (by rfl) _ 67 hq4 hZs infoCd (cdL_one _ _ _ _) ?_; intro w5 hb5 ht5) | fail)
        have hld := run_loadVar_mid (P := Tryz.prog) w5 w.heap.size 0 67 (cdL y (.slice la y.slots.length lc)) _ (range_blk hb5.out) Tryz.underlying67 rfl infoCd
        go_frame
        exact bodyPost_ret (v := .agg (cdL y (.slice la y.slots.length lc)).toArray) (by simp [results, Tryz.results62, asAddr, hld]) rfl (PPost.good HC.out ((M3.out.drew.trans hm4).turn ht5.out (Nat.le_refl _)) ⟨la, lc, rfl, own_turn (owns_base ho4 (by simp; omega)) ht5.out hq4 (by decide)⟩ (hp4.turned ht5.out (by simp at hs4; omega)))
    by_cases k2 : ptW x = modifyT
    · have hcf : cmdF (ptW x) = some 44 := by unfold cmdF; rw [if_neg k1, if_pos k2]
      have HC : Hid (pCmd l = cModify l1) := show _ = _ from by rw [HPC.out]; rw [if_neg k1, if_pos k2]
      rw [hcf] at hlk hlkd
      unfold mth at hlk hlkd
      simp only [Option.isSome_some] at hlk hlkd
      have HS := hidX (fun u (hu : PSt u pb src a c l1 R) => modify_any u pb src a c l1 R hu)
      clear hcf k1 k2
      go_wp2_with fail
      go_region
      cases hs : cModify l1 with
      | error f =>
        rw [hs] at HS HC
        go_wp2_with (first | (go_at_call 44; refine (HS.out _ (P3.out.below ((Below.refl _ _).drew))).mono ?_; rintro e w4 ⟨hm4, rfl⟩; unfold fltE) | fail)
        exact ⟨rfl, PPost.err HC.out (M3.out.drew.trans hm4)⟩
      | ok q =>
        obtain ⟨y, l2⟩ := q
        rw [hs] at HS HC
        go_wp2_with (first | (go_at_call 44; refine (HS.out _ (P3.out.below ((Below.refl _ _).drew))).mono ?_; rintro e w4 ⟨hm4, ⟨la, lc, rfl, ho4⟩, hp4⟩; have hs4 := hm4.rest.size; have hq4 := (hm4.block w.heap.size (by simp; omega) (fun e => by injection e; omega)).trans hqr) | (refine wpList_store_blk (by rfl) 67 (.tmp 2) (.tmp 24) (by rfl) w.heap.size (cdL y (.slice la y.slots.length lc)) (by rfl) (by rfl) _ 67 hq4 hZs infoCd (cdL_one _ _ _ _) ?_; intro w5 hb5 ht5) | fail)
        have hld := run_loadVar_mid (P := Tryz.prog) w5 w.heap.size 0 67 (cdL y (.slice la y.slots.length lc)) _ (range_blk hb5.out) Tryz.underlying67 rfl infoCd
        go_frame
        exact bodyPost_ret (v := .agg (cdL y (.slice la y.slots.length lc)).toArray) (by simp [results, Tryz.results62, asAddr, hld]) rfl (PPost.good HC.out ((M3.out.drew.trans hm4).turn ht5.out (Nat.le_refl _)) ⟨la, lc, rfl, own_turn (owns_base ho4 (by simp; omega)) ht5.out hq4 (by decide)⟩ (hp4.turned ht5.out (by simp at hs4; omega)))
    by_cases k3 : ptW x = retractT
    · have hcf : cmdF (ptW x) = some 43 := by unfold cmdF; rw [if_neg k1, if_neg k2, if_pos k3]
      have HC : Hid (pCmd l = cNum 2 l1) := show _ = _ from by rw [HPC.out]; rw [if_neg k1, if_neg k2, if_pos k3]
      rw [hcf] at hlk hlkd
      unfold mth at hlk hlkd
      simp only [Option.isSome_some] at hlk hlkd
      have HS := hidX (fun u (hu : PSt u pb src a c l1 R) => retract_any u pb src a c l1 R hu)
      clear hcf k1 k2 k3
      go_wp2_with fail
      go_region
      cases hs : cNum 2 l1 with
      | error f =>
        rw [hs] at HS HC
        go_wp2_with (first | (go_at_call 43; refine (HS.out _ (P3.out.below ((Below.refl _ _).drew))).mono ?_; rintro e w4 ⟨hm4, rfl⟩; unfold fltE) | fail)
        exact ⟨rfl, PPost.err HC.out (M3.out.drew.trans hm4)⟩
      | ok q =>
        obtain ⟨y, l2⟩ := q
        rw [hs] at HS HC
        go_wp2_with (first | (go_at_call 43; refine (HS.out _ (P3.out.below ((Below.refl _ _).drew))).mono ?_; rintro e w4 ⟨hm4, ⟨la, lc, rfl, ho4⟩, hp4⟩; have hs4 := hm4.rest.size; have hq4 := (hm4.block w.heap.size (by simp; omega) (fun e => by injection e; omega)).trans hqr) | (refine wpList_store_blk (by rfl) 67 (.tmp 2) (.tmp 24) (by rfl) w.heap.size (cdL y (.slice la y.slots.length lc)) (by rfl) (by rfl) _ 67 hq4 hZs infoCd (cdL_one _ _ _ _) ?_; intro w5 hb5 ht5) | fail)
        have hld := run_loadVar_mid (P := Tryz.prog) w5 w.heap.size 0 67 (cdL y (.slice la y.slots.length lc)) _ (range_blk hb5.out) Tryz.underlying67 rfl infoCd
        go_frame
        exact bodyPost_ret (v := .agg (cdL y (.slice la y.slots.length lc)).toArray) (by simp [results, Tryz.results62, asAddr, hld]) rfl (PPost.good HC.out ((M3.out.drew.trans hm4).turn ht5.out (Nat.le_refl _)) ⟨la, lc, rfl, own_turn (owns_base ho4 (by simp; omega)) ht5.out hq4 (by decide)⟩ (hp4.turned ht5.out (by simp at hs4; omega)))
    by_cases k4 : ptW x = assertT
    · have hcf : cmdF (ptW x) = some 42 := by unfold cmdF; rw [if_neg k1, if_neg k2, if_neg k3, if_pos k4]
      have HC : Hid (pCmd l = cAssert l1) := show _ = _ from by rw [HPC.out]; rw [if_neg k1, if_neg k2, if_neg k3, if_pos k4]
      rw [hcf] at hlk hlkd
      unfold mth at hlk hlkd
      simp only [Option.isSome_some] at hlk hlkd
      have HS := hidX (fun u (hu : PSt u pb src a c l1 R) => assert_any u pb src a c l1 R hu)
      clear hcf k1 k2 k3 k4
      go_wp2_with fail
      go_region
      cases hs : cAssert l1 with
      | error f =>
        rw [hs] at HS HC
        go_wp2_with (first | (go_at_call 42; refine (HS.out _ (P3.out.below ((Below.refl _ _).drew))).mono ?_; rintro e w4 ⟨hm4, rfl⟩; unfold fltE) | fail)
        exact ⟨rfl, PPost.err HC.out (M3.out.drew.trans hm4)⟩
      | ok q =>
        obtain ⟨y, l2⟩ := q
        rw [hs] at HS HC
        go_wp2_with (first | (go_at_call 42; refine (HS.out _ (P3.out.below ((Below.refl _ _).drew))).mono ?_; rintro e w4 ⟨hm4, ⟨la, lc, rfl, ho4⟩, hp4⟩; have hs4 := hm4.rest.size; have hq4 := (hm4.block w.heap.size (by simp; omega) (fun e => by injection e; omega)).trans hqr) | (refine wpList_store_blk (by rfl) 67 (.tmp 2) (.tmp 24) (by rfl) w.heap.size (cdL y (.slice la y.slots.length lc)) (by rfl) (by rfl) _ 67 hq4 hZs infoCd (cdL_one _ _ _ _) ?_; intro w5 hb5 ht5) | fail)
        have hld := run_loadVar_mid (P := Tryz.prog) w5 w.heap.size 0 67 (cdL y (.slice la y.slots.length lc)) _ (range_blk hb5.out) Tryz.underlying67 rfl infoCd
        go_frame
        exact bodyPost_ret (v := .agg (cdL y (.slice la y.slots.length lc)).toArray) (by simp [results, Tryz.results62, asAddr, hld]) rfl (PPost.good HC.out ((M3.out.drew.trans hm4).turn ht5.out (Nat.le_refl _)) ⟨la, lc, rfl, own_turn (owns_base ho4 (by simp; omega)) ht5.out hq4 (by decide)⟩ (hp4.turned ht5.out (by simp at hs4; omega)))
    have hcf : cmdF (ptW x) = none := by unfold cmdF; rw [if_neg k1, if_neg k2, if_neg k3, if_neg k4]
    have HC : Hid (pCmd l = .error (3, x.pos)) := show _ = _ from by rw [HPC.out, if_neg k1, if_neg k2, if_neg k3, if_neg k4]
    rw [hcf] at hlk hlkd
    simp only [Option.isSome_none] at hlk hlkd
    clear hcf k1 k2 k3 k4
    go_wp2_with fail
    go_region
    go_wp2_with (first | (refine wpList_load_blk (by rfl) 116 (.tmp 3) (by rfl) w2.heap.size L (by rfl) 116 (0, 0) hq3 _ Tryz.underlying116 rfl hLl.1 ?_) | (go_at_call 86; refine (fault_L HLX 3 _).mono ?_; rintro e w4 ⟨rfl, hb4⟩) | fail)
    exact ⟨rfl, PPost.err HC.out (M3.out.drew.trans (MkO.of_below hb4))⟩
end Go.Proofs.YtdhpoagjmiligaaGreatDoor

namespace Go.Proofs.YtdhpoagjmiligaaGreatDoor
open Go.RowKit Go.Maps
attribute [local go_sem ↓] Go.wp_at_zero Go.wp_at_succ

/-- What a region leaves that may panic. -/
def PaQ (Q : Exit → Act → World → Prop) (T : List PanicEntry → World → Prop) : Exit → Act → World → Prop
  | .panic c, a, w => a.defers = [] ∧ T c w
  | e, a, w => Q e a w
theorem PaQ.imp {Q : Exit → Act → World → Prop} {T : List PanicEntry → World → Prop} (hT : ∀ c a w, a.defers = [] → T c w → Q (.panic c) a w) : ∀ (e : Exit) (a : Act) (w : World), PaQ Q T e a w → Q e a w := fun e a w h => by
  cases e <;> first | exact h | exact hT _ _ _ h.1 h.2
theorem wp_region_pa {P : Program} {id : Nat} {ops : Array Oper} {b : Bool} {Q : Exit → Act → World → Prop} (T : List PanicEntry → World → Prop) {a : Act} {w : World} (hT : ∀ c a w, a.defers = [] → T c w → Q (.panic c) a w) (h : (Code.region id ops b).wp P (PaQ Q T) a w) : (Code.region id ops b).wp P Q a w :=
  Code.wp_mono (PaQ.imp hT) h
theorem tkP {P : Program} {l : List Oper} {Q : Exit → Act → World → Prop} {T : List PanicEntry → World → Prop} {md : Region.Mode} {S : World → Prop} (i : Nat) {oi : Oper} {v : Value} {fuel : Nat} {listed : Array Bool} {a : Act} {w : World} (hS : S w)
    (h : wpAnyH P md l.toArray (PaQ Q T) S fuel (listed.setIfInBounds i true) (a.put oi.dst v) w) (hi : l[i]? = some oi := by rfl)
    (hs : Region.noSelect l.toArray = true := by kernel_rfl) (hf : Region.free md l.toArray listed i = true := by kernel_rfl) (hr : (Region.ready md l.toArray listed).contains i = true := by kernel_rfl)
    (hw : Region.wanted oi (yielded l.toArray a.tmps) = true := by rfl) (hy : ∀ w, S w → (execOp a.eval oi).run P w = .ok (.value v) w := by intro w hSw; (try dsimp only at hSw); go_simp; try with_reducible rfl) : wpAnyH P md l.toArray (PaQ Q T) S (fuel + 1) listed a w :=
  wpAnyH_take (List.getElem?_toArray.trans hi) hs hf hr (fun _ a _ h => ⟨by have h1 := h.1; unfold Act.put at h1; split at h1 <;> exact h1, h.2⟩) (.inl ⟨hw, hy⟩) hS h
/-- Commands up to the end; n: how many may still come. -/
def pCmds : Nat → List Wd → Px (List Cd)
  | 0, l => match nextW l with
    | .error f => .error f
    | .ok (x, _) => if pkW x = 0 then .ok ([], l) else if pkW x = 40 then .error (4, x.pos) else .error (3, x.pos)
  | n + 1, l => match nextW l with
    | .error f => .error f
    | .ok (x, _) => if pkW x = 0 then .ok ([], l) else match takeW 40 l with
      | .error f => .error f
      | .ok (_, l1) => match pCmd l1 with
        | .error f => .error f
        | .ok (v, l2) => match pCmds n l2 with
          | .error f => .error f
          | .ok (vs, l3) => .ok (v :: vs, l3)
theorem pCmds_err {n : Nat} {l : List Wd} {f : Flt} (h : nextW l = .error f) : pCmds n l = .error f := by
  cases n <;> simp [pCmds, h]
theorem pCmds_end {n : Nat} {l r : List Wd} {x : Wd} (h : nextW l = .ok (x, r)) (hx : pkW x = 0) : pCmds n l = .ok ([], l) := by
  cases n <;> simp [pCmds, h, hx]
theorem takeW_not {l r : List Wd} {x : Wd} {k : Int} (h : nextW l = .ok (x, r)) (hx : pkW x ≠ k) : takeW k l = .error (3, x.pos) := by
  unfold takeW
  rw [h]
  simp [hx]
theorem pCmds_open {n : Nat} {l r : List Wd} {x : Wd} {f : Flt} (h : nextW l = .ok (x, r)) (hx : pkW x ≠ 0) (hm : n ≤ 200) (ho : openW ((200 - n : Nat) : Int) 200 l = .error f) : pCmds n l = .error f := by
  unfold openW at ho
  rw [h] at ho
  simp only at ho
  cases n with
  | zero =>
    by_cases h40 : pkW x = 40
    · rw [if_pos ⟨h40, by simp⟩] at ho
      injection ho with ho
      simp [pCmds, h, h40, ← ho]
    · rw [if_neg (fun e => h40 e.1), takeW_not h h40] at ho
      injection ho with ho
      simp [pCmds, h, hx, h40, ← ho]
  | succ n =>
    rw [if_neg (fun e => by have := e.2; omega)] at ho
    simp [pCmds, h, hx, ho]
theorem pCmds_more {n : Nat} {l r l1 : List Wd} {x y : Wd} (h : nextW l = .ok (x, r)) (hm : n ≤ 200) (ho : openW ((200 - n : Nat) : Int) 200 l = .ok (y, l1)) : ∃ m, n = m + 1 ∧ takeW 40 l = .ok (y, l1) := by
  unfold openW at ho
  rw [h] at ho
  simp only at ho
  cases n with
  | zero =>
    by_cases h40 : pkW x = 40
    · rw [if_pos ⟨h40, by simp⟩] at ho
      cases ho
    · rw [if_neg (fun e => h40 e.1), takeW_not h h40] at ho
      cases ho
  | succ n =>
    rw [if_neg (fun e => by have := e.2; omega)] at ho
    exact ⟨n, rfl, ho⟩
theorem pCmds_bad {n : Nat} {l r l1 : List Wd} {x y : Wd} {f : Flt} (h : nextW l = .ok (x, r)) (hx : pkW x ≠ 0) (ht : takeW 40 l = .ok (y, l1)) (hc : pCmd l1 = .error f) : pCmds (n + 1) l = .error f := by
  simp [pCmds, h, hx, ht, hc]
theorem pCmds_step {n : Nat} {l r l1 l2 : List Wd} {x y : Wd} {v : Cd} {M : List Cd} (h : nextW l = .ok (x, r)) (hx : pkW x ≠ 0) (ht : takeW 40 l = .ok (y, l1)) (hc : pCmd l1 = .ok (v, l2)) : preL M (pCmds (n + 1) l) = preL (M ++ [v]) (pCmds n l2) := by
  simp only [pCmds, h, hx, ht, hc, if_false]
  cases pCmds n l2 with
  | error f => rfl
  | ok p =>
    obtain ⟨vs, l3⟩ := p
    simp [preL]
/-- A command with the slice of its values. -/
abbrev CdX := Cd × Value
def cdC (x : CdX) : List Value := cdL x.1 x.2
def CdP (w : World) (B : Nat) (x : CdX) : Prop := ∃ la lc, x.2 = .slice la x.1.slots.length lc ∧ w.ownsRow B 101 3 x.2 x.1.slots.length (x.1.slots.flatMap V.cells)
/-- A row of commands that is owned, each with values of its own. -/
structure CO (w : World) (B : Nat) (a : Option Addr) (c : Nat) (M : List CdX) : Prop where
  row : w.ownsRow B 67 4 (.slice a M.length c) M.length (M.flatMap cdC)
  all : ∀ x ∈ M, CdP w B x
  pair : M.Pairwise fun x y => Apart x.2 y.2
theorem CO.nil (w : World) (B : Nat) : CO w B none 0 [] := ⟨World.ownsRow_nil _ _ _ _, fun x hx => by simp at hx, List.Pairwise.nil⟩
theorem CdP.mko {w w' : World} {B pb : Nat} {x : CdX} (h : CdP w B x) (hm : MkO (some pb) w w') (hp : pb < B) : CdP w' B x := by
  obtain ⟨la, lc, h1, h2⟩ := h
  exact ⟨la, lc, h1, own_mko h2 hm hp⟩
theorem CO.mko {w w' : World} {B pb : Nat} {a : Option Addr} {c : Nat} {M : List CdX} (h : CO w B a c M) (hm : MkO (some pb) w w') (hp : pb < B) : CO w' B a c M := ⟨own_mko h.row hm hp, fun x hx => (h.all x hx).mko hm hp, h.pair⟩
/-- A command whose values are newer stands apart. -/
theorem CO.newer {w : World} {B C : Nat} {a : Option Addr} {c : Nat} {M : List CdX} {v : Cd} {va : Option Addr} {vc : Nat} {w' : World} (h : CO w B a c M) (hC : w.heap.size ≤ C) (hv : w'.ownsRow C 101 3 (.slice va v.slots.length vc) v.slots.length (v.slots.flatMap V.cells)) : (M ++ [((v, .slice va v.slots.length vc) : CdX)]).Pairwise fun x y => Apart x.2 y.2 :=
  List.pairwise_append.2 ⟨h.pair, by simp, fun x hx y hy g hg hg' => by
    simp at hy
    subst hy
    obtain ⟨la, lc, _, h2⟩ := h.all x hx
    have h3 := (h2.lt g hg).2
    have h4 := (hv.lt g hg').1
    omega⟩
theorem CdP.grown {w w' : World} {B : Nat} {x : CdX} {row : Option Nat} (h : CdP w B x) (hg : w.grownBy w' row) (ht : ∀ k, row = some k → ∃ c, w.heap[k]? = some (.cells c 67 (0, 0))) : CdP w' B x := by
  obtain ⟨la, lc, h1, h2⟩ := h
  exact ⟨la, lc, h1, own_grown h2 hg ht (by decide)⟩
theorem infoCF : (Tryz.prog.info? 67).map (fun i => (i.zero, i.size, i.bytes)) = some (some (.agg #[.int .i64 0, .int .i64 0, .string ⟨#[]⟩, .slice none 0 0]), 4, 56) := by kernel_rfl
def lenAt (pb : Nat) (w : World) : Nat := match w.cell? ⟨pb, 5, none⟩ with
  | some v => sliceLen v
  | none => 0
def RL (am cm rv lv ev bv : Value) : List Value := [am, cm, rv, lv, ev, bv]
/-- What a script leaves. -/
def ScrPost (w : World) (pb : Nat) (src : Bs) (a : Option Addr) (c : Nat) (am cm rv ev bv : Value) (r : Px (List Cd)) (e : Ending) (w' : World) : Prop := MkO (some pb) w w' ∧ match r with
  | .error f => e = fltE f
  | .ok (vs, l) => e = .returned (.tuple #[]) ∧ ∃ la lc M, M.map Prod.fst = vs ∧ CO w' w.heap.size la lc M ∧ PSt w' pb src a c l (RL am cm rv (.slice la M.length lc) ev bv)
theorem ScrPost.err {w w' : World} {pb : Nat} {src : Bs} {a : Option Addr} {c : Nat} {am cm rv ev bv : Value} {r : Px (List Cd)} {f : Flt} (hr : r = .error f) (hm : MkO (some pb) w w') : ScrPost w pb src a c am cm rv ev bv r (fltE f) w' := by
  subst hr
  exact ⟨hm, rfl⟩
theorem PSt.list {w w' : World} {pb : Nat} {src : Bs} {a : Option Addr} {c : Nat} {l : List Wd} {am cm rv lv ev bv v : Value} (h : PSt w pb src a c l (RL am cm rv lv ev bv)) (hv : w' = w.setCell ⟨pb, 5, none⟩ v) : PSt w' pb src a c l (RL am cm rv v ev bv) := by
  subst hv
  obtain ⟨k, hs⟩ := h.sc
  have hb : Below pb w (w.setCell ⟨pb, 5, none⟩ v) := (Turned.setCells [v] 5 w pb).below (Nat.le_refl pb)
  obtain ⟨k', hk', e', hw'⟩ := hs.pos
  refine ⟨⟨k, ⟨?_, rfl, hs.cap, hs.len, hs.bys.keep hs.far hb, hs.far, k', hk', ?_, hw'⟩⟩, h.env.keep hb⟩
  · have := heap_setCell_same (i := 5) hs.blk v
    rw [this]
    simp [RL]
  · simpa using e'
set_option maxRecDepth 100000 in
set_option maxHeartbeats 6400000 in
theorem script_any (w : World) (pb mb : Nat) (src : Bs) (a : Option Addr) (c : Nat) (l : List Wd) (am rv ev bv : Value) (h : PSt w pb src a c l (RL am (.map (some mb)) rv (.slice none 0 0) ev bv)) (hM : FnMap w pb mb cmdF) (hne : pb < mb) : Calls Tryz.prog 29 #[.pointer (some ⟨pb, 0, none⟩)] w (ScrPost w pb src a c am (.map (some mb)) rv ev bv (pCmds 200 l)) := by
  have HP := hidX h
  have HM := hidX hM
  have hpb := h.lt
  clear h hM
  go_enter Tryz.func29, Tryz.ntmps29
  go_wp2_with fail
  go_loopw [2] (fun _ wr => ∃ (la : Option Addr) (lc n : Nat) (M : List CdX) (l' : List Wd), M.length + n = 200 ∧ CO wr w.heap.size la lc M ∧ PSt wr pb src a c l' (RL am (.map (some mb)) rv (.slice la M.length lc) ev bv) ∧ MkO (some pb) w wr ∧ pCmds 200 l = preL (M.map Prod.fst) (pCmds n l')) (fun _ wr => 200 - lenAt pb wr)
  case atStart => exact ⟨none, 0, 200, [], l, rfl, CO.nil _ _, HP.out, MkO.refl _ _, by unfold preL; cases pCmds 200 l <;> rfl⟩
  case round =>
    obtain ⟨la, lc, n, M, l', hMn, hco, hps, hmk, hpl⟩ := hrel
    have OW := hidX hco
    have PS := hidX hps
    have MK := hidX hmk
    have PL := hidX hpl
    have HAH := hidX (ahead_any wr pb src a c l' _ 0 hps)
    have c5 : wr.cell? ⟨pb, 5, none⟩ = some (.slice la M.length lc) := hps.cell (j := 3) rfl
    have HML : Hid (lenAt pb wr = M.length) := show _ = _ from by unfold lenAt; rw [c5]; rfl
    clear hco hps hmk hpl
    cases hr : nextW l' with
    | error f =>
      have HT : Hid (pCmds 200 l = .error f) := show _ = _ from by rw [PL.out, pCmds_err hr]; rfl
      rw [hr] at HAH
      go_wp2_with (first | (go_at_call 48; refine HAH.out.mono ?_; rintro e w2 ⟨hb2, rfl⟩; unfold fltE) | fail)
      exact ⟨rfl, ScrPost.err HT.out (MK.out.trans (MkO.of_below hb2))⟩
    | ok p =>
      obtain ⟨x, r⟩ := p
      rw [hr] at HAH
      by_cases hx : pkW x = 0
      · have HT : Hid (pCmds 200 l = .ok (M.map Prod.fst, l')) := show _ = _ from by rw [PL.out, pCmds_end hr hx]; simp [preL]
        replace HAH : Hid (Calls Tryz.prog 48 #[.pointer (some ⟨pb, 0, none⟩), .int .i32 0] wr fun e w' => Below wr.heap.size wr w' ∧ e = .returned (.bool true)) := by
          rw [← decide_eq_true hx]
          exact HAH
        clear hx
        go_wp2_with (first | (go_at_call 48; refine HAH.out.mono ?_; rintro e w2 ⟨hb2, rfl⟩) | fail)
        refine bodyPost_end (results_none rfl _ _ _) rfl ⟨MK.out.trans (MkO.of_below hb2), ?_⟩
        rw [HT.out]
        exact ⟨rfl, la, lc, M, rfl, OW.out.mko (MkO.of_below hb2) hpb, PS.out.below hb2⟩
      · replace HAH : Hid (Calls Tryz.prog 48 #[.pointer (some ⟨pb, 0, none⟩), .int .i32 0] wr fun e w' => Below wr.heap.size wr w' ∧ e = .returned (.bool false)) := by
          rw [← decide_eq_false hx]
          exact HAH
        have HOP := hidX (fun u (hu : Below wr.heap.size wr u) => open_any u pb src a c l' _ (M.length : Int) 200 (PS.out.below hu))
        have hnM : (M.length : Int) = ((200 - n : Nat) : Int) := by omega
        cases ho : openW (M.length : Int) 200 l' with
        | error f =>
          have HT : Hid (pCmds 200 l = .error f) := show _ = _ from by rw [PL.out, pCmds_open (n := n) hr hx (by omega) (by rw [← hnM]; exact ho)]; rfl
          rw [ho] at HOP
          clear hx hnM ho
          go_upto_region 1 with (first | (go_at_call 48; refine HAH.out.mono ?_; rintro e w2 ⟨hb2, rfl⟩) | fail)
          have d5 := cell_below hb2 c5
          go_wp2_with (first | (go_at_call 49; refine (HOP.out _ hb2).mono ?_; rintro e w3 ⟨hm3, rfl⟩; unfold fltE) | fail)
          exact ⟨rfl, ScrPost.err HT.out ((MK.out.trans (MkO.of_below hb2)).trans hm3)⟩
        | ok p =>
          obtain ⟨y, l1⟩ := p
          obtain ⟨n, rfl, htk⟩ := pCmds_more (n := n) hr (by omega) (by rw [← hnM]; exact ho)
          rw [ho] at HOP
          clear hnM ho
          have HCM := hidX (fun u (hu : PSt u pb src a c l1 (RL am (.map (some mb)) rv (.slice la M.length lc) ev bv)) (hm : MkO (some pb) w u) => command_any u pb mb src a c l1 _ hu rfl (HM.out.mko hm (Nat.ne_of_lt hne)) hne)
          go_upto_region 1 with (first | (go_at_call 48; refine HAH.out.mono ?_; rintro e w2 ⟨hb2, rfl⟩) | fail)
          have d5 := cell_below hb2 c5
          go_upto_region 2 with (first | (go_at_call 49; refine (HOP.out _ hb2).mono ?_; rintro e w3 ⟨hm3, rfl, hp3⟩) | fail)
          have M3 := hidX ((MK.out.trans (MkO.of_below hb2)).trans hm3)
          have O3 := hidX ((OW.out.mko (MkO.of_below hb2) hpb).mko hm3 hpb)
          have P3 := hidX hp3
          have e5 : w3.cell? ⟨pb, 5, none⟩ = some (.slice la M.length lc) := hp3.cell (j := 3) rfl
          clear hm3 hp3 hb2 d5 c5 HOP HAH
          cases hc : pCmd l1 with
          | error f =>
            have HT : Hid (pCmds 200 l = .error f) := show _ = _ from by rw [PL.out, pCmds_bad hr hx htk hc]; rfl
            rw [hc] at HCM
            clear hx
            refine wp_region_pa (fun ch u => ScrPost w pb src a c am (.map (some mb)) rv ev bv (pCmds 200 l) (.panicked ch) u) (fun _ _ _ h1 h2 => ⟨h1, h2⟩) ?_
            refine wp_region_held_drew (S := (fun _ => True)) (by kernel_rfl) ?_ (fun hHeld => ?_)
            · trivial
            refine tkP 0 hHeld ?_
            (try simp only [pA, pZ, pS])
            refine tkP 1 hHeld ?_
            (try simp only [pA, pZ, pS])
            refine tkP 2 hHeld ?_
            (try simp only [pA, pZ, pS])
            refine tkP 3 hHeld ?_
            (try simp only [pA, pZ, pS])
            refine tkP 5 hHeld ?_
            (try simp only [pA, pZ, pS])
            refine wpAnyH_ready (rs := [4, 6]) (by kernel_rfl) (by simp) ?_
            refine AllReadyH.cons (o := ?o1) ?ho1 (fun K hK => ?step1) (AllReadyH.cons (o := ?o2) ?ho2 (fun K hK => ?step2) AllReadyH.nil)
            case ho1 => (simp only [List.getElem?_toArray, List.getElem?_cons_succ, List.getElem?_cons_zero]; rfl)
            case ho2 => (simp only [List.getElem?_toArray, List.getElem?_cons_succ, List.getElem?_cons_zero]; rfl)
            case step1 =>
              go_simp
              refine hK.out _ _ ?hS3 (fun hHeld' => ?rest3)
              case hS3 => ((try dsimp only); all_goals trivial)
              clear hK K
              (try simp only [pA, pZ, pS])
              clear hHeld
              have hHeld := hHeld'
              clear hHeld'
              refine wpAnyH_ready (rs := [6]) (by kernel_rfl) (by simp) ?_
              refine AllReadyH.cons (o := ?o4) ?ho4 (fun K hK => ?step4) AllReadyH.nil
              case ho4 => (simp only [List.getElem?_toArray, List.getElem?_cons_succ, List.getElem?_cons_zero]; rfl)
              go_simp
              (go_at_call 62; refine (HCM.out _ (P3.out.below ((Below.refl _ _).drew)) M3.out.drew).mono ?_; rintro e w4 ⟨hm4, rfl⟩; unfold fltE)
              go_wp2_with fail
              exact ⟨rfl, ScrPost.err HT.out (M3.out.drew.trans hm4)⟩
            case step2 =>
              go_simp
              (go_at_call 62; refine (HCM.out _ (P3.out.below ((Below.refl _ _).drew)) M3.out.drew).mono ?_; rintro e w4 ⟨hm4, rfl⟩; unfold fltE)
              go_wp2_with fail
              exact ⟨rfl, ScrPost.err HT.out (M3.out.drew.trans hm4)⟩
          | ok q =>
            obtain ⟨v, l2⟩ := q
            have PL2 := hidX (PL.out.trans (pCmds_step (M := M.map Prod.fst) hr hx htk hc))
            rw [hc] at HCM
            clear hx
            refine wp_region_noPanic ?_
            refine wp_region_held_drew (S := (fun _ => True)) (by kernel_rfl) ?_ (fun hHeld => ?_)
            · (try dsimp only)
              all_goals trivial
            refine tk 0 hHeld ?_
            (try simp only [pA, pZ, pS])
            refine tk 1 hHeld ?_
            (try simp only [pA, pZ, pS])
            refine tk 2 hHeld ?_
            (try simp only [pA, pZ, pS])
            refine tk 3 hHeld ?_
            (try simp only [pA, pZ, pS])
            refine tk 5 hHeld ?_
            (try simp only [pA, pZ, pS])
            refine wpAnyH_ready (rs := [4, 6]) (by kernel_rfl) (by simp) ?_
            refine AllReadyH.cons (o := ?o5) ?ho5 (fun K hK => ?step5) (AllReadyH.cons (o := ?o6) ?ho6 (fun K hK => ?step6) AllReadyH.nil)
            case ho5 => (simp only [List.getElem?_toArray, List.getElem?_cons_succ, List.getElem?_cons_zero]; rfl)
            case ho6 => (simp only [List.getElem?_toArray, List.getElem?_cons_succ, List.getElem?_cons_zero]; rfl)
            case step5 =>
              go_simp
              refine hK.out _ _ ?hS7 (fun hHeld' => ?rest7)
              case hS7 => ((try dsimp only); all_goals trivial)
              clear hK K
              (try simp only [pA, pZ, pS])
              clear hHeld
              have hHeld := hHeld'
              clear hHeld'
              refine wpAnyH_ready (rs := [6]) (by kernel_rfl) (by simp) ?_
              refine AllReadyH.cons (o := ?o8) ?ho8 (fun K hK => ?step8) AllReadyH.nil
              case ho8 => (simp only [List.getElem?_toArray, List.getElem?_cons_succ, List.getElem?_cons_zero]; rfl)
              go_simp
              (go_at_call 62; refine (HCM.out _ (P3.out.below ((Below.refl _ _).drew)) M3.out.drew).mono ?_; rintro e w4 ⟨hm4, ⟨va, vc, rfl, ho4⟩, hp4⟩; unfold cdL; have e54 : w4.cell? ⟨pb, 5, none⟩ = some (.slice la M.length lc) := hp4.cell (j := 3) rfl)
              refine hK.out _ _ ?hS9 (fun hHeld' => ?rest9)
              case hS9 => ((try dsimp only); all_goals trivial)
              clear hK K
              (try simp only [pA, pZ, pS])
              clear hHeld
              have hHeld := hHeld'
              clear hHeld'
              refine wpAnyH_ready (rs := [7]) (by kernel_rfl) (by simp) ?_
              refine AllReadyH.cons (o := ?o10) ?ho10 (fun K hK => ?step10) AllReadyH.nil
              case ho10 => (simp only [List.getElem?_toArray, List.getElem?_cons_succ, List.getElem?_cons_zero]; rfl)
              go_simp
              have HA4 := hidX (fun o' => (Below.refl _ _).alloc (Nat.le_refl _) o' : ∀ o', Below w4.heap.size w4 (w4.alloc o')); have e54a : ∀ o', (w4.alloc o').cell? ⟨pb, 5, none⟩ = some (.slice la M.length lc) := fun o' => cell_below (HA4.out o') e54
              refine hK.out _ _ ?hS11 (fun hHeld' => ?rest11)
              case hS11 => ((try dsimp only); all_goals trivial)
              clear hK K
              (try simp only [pA, pZ, pS])
              clear hHeld
              have hHeld := hHeld'
              clear hHeld'
              have M4 := hidX (M3.out.drew.trans hm4)
              have hs4 := M4.out.rest.size
              have OA := hidX (fun o' => (((O3.out.mko (MkO.of_below ((Below.refl _ _).drew)) hpb).mko hm4 hpb).mko (MkO.of_below (HA4.out o')) hpb : CO (w4.alloc o') w.heap.size la lc M))
              have NX := hidX (show CdP w4 w.heap.size (v, .slice va v.slots.length vc) from ⟨va, vc, rfl, owns_base ho4 (by have := M3.out.rest.size; simpa using this)⟩)
              refine wpAnyH_ready (rs := [8]) (by kernel_rfl) (by simp) ?_
              refine AllReadyH.cons (o := ?o12) ?ho12 (fun K hK => ?step12) AllReadyH.nil
              case ho12 => (simp only [List.getElem?_toArray, List.getElem?_cons_succ, List.getElem?_cons_zero]; rfl)
              (refine step_append_any (by rfl) (.tmp 16) (.tmp 19) 33 (by rfl) w.heap.size 67 _ 4 56 Tryz.underlying33 infoCF (by rfl) (by omega) _ M.length _ (by rfl) (OA.out _).row (some ⟨_, 0, none⟩) 1 1 (by rfl) (cdC (v, .slice va v.slots.length vc)) (by rfl) (fun e => by cases e) (news_new _ _ _ _ (by simp)) (cdL_one _ _ _ _) (by unfold maxLen; omega) (by omega) (by simp; omega) ?_; intro a8 c8 w8 ho8 hg8 hl8)
              refine hK.out _ _ ?hS13 (fun hHeld' => ?rest13)
              case hS13 => ((try dsimp only); all_goals trivial)
              clear hK K
              (try simp only [pA, pZ, pS])
              clear hHeld
              have hHeld := hHeld'
              clear hHeld'
              have hrow : ∀ k, (Value.slice la M.length lc).ownBlock = some k → w.heap.size ≤ k := fun k hk => (O3.out.row.lt k hk).1
              have TY := hidX (fun o' g hg => own_type (OA.out o').row (k := g) hg)
              have M8 := hidX ((M4.out.trans (MkO.of_below (HA4.out _))).grown hg8.out hrow)
              have P8 := hidX ((hp4.below (HA4.out _)).keep ((Below.refl _ _).grown hg8.out (by simp; omega) (fun k hk => by have := hrow k hk; omega)))
              have C8 := hidX (show CO w8 w.heap.size a8 c8 (M ++ [((v, .slice va v.slots.length vc) : CdX)]) from ⟨by simpa using ho8.out, fun x hx => by
                rcases List.mem_append.1 hx with hx | hx
                · exact ((OA.out _).all x hx).grown hg8.out (TY.out _)
                · simp at hx
                  subst hx
                  exact (NX.out.mko (MkO.of_below (HA4.out _)) hpb).grown hg8.out (TY.out _), O3.out.newer (Nat.le_refl _) ho4⟩)
              have f5 : w8.cell? ⟨pb, 5, none⟩ = some (.slice la M.length lc) := P8.out.cell (j := 3) rfl
              have g5 : w8.frozen? ⟨pb, 5, none⟩ = false := by
                obtain ⟨k', hs'⟩ := P8.out.sc
                simp [World.frozen?, hs'.blk]
              refine tk 9 hHeld ?_
              (try simp only [pA, pZ, pS])
              refine tk 10 hHeld ?_
              (try simp only [pA, pZ, pS])
              refine wpAnyH_ready (rs := [11]) (by kernel_rfl) (by simp) ?_
              refine AllReadyH.cons (o := ?o14) ?ho14 (fun K hK => ?step14) AllReadyH.nil
              case ho14 => (simp only [List.getElem?_toArray, List.getElem?_cons_succ, List.getElem?_cons_zero]; rfl)
              go_simp
              refine hK.out _ _ ?hS15 (fun hHeld' => ?rest15)
              case hS15 => ((try dsimp only); all_goals trivial)
              clear hK K
              (try dsimp only)
              clear hHeld
              have hHeld := hHeld'
              clear hHeld'
              refine wpAnyH_done (by kernel_rfl) ?_ _
              refine NoPanic.normal ?_
              have P9 := hidX (P8.out.list (v := .slice a8 (M.length + 1) c8) rfl)
              have M9 := hidX (MkO.set (w := w8) (g := pb) (o := 5) (.slice a8 (M.length + 1) c8))
              have C9 := hidX (C8.out.mko M9.out hpb)
              clear hHeld
              go_wp2_with fail
              go_roundw
              case rel => exact ⟨a8, c8, n, M ++ [((v, .slice va v.slots.length vc) : CdX)], l2, by simp; omega, C9.out, by simpa using P9.out, M8.out.trans M9.out, by simpa using PL2.out⟩
              case measure =>
                have hL9 : lenAt pb (w8.setCell ⟨pb, 5, none⟩ (.slice a8 (M.length + 1) c8)) = M.length + 1 := by
                  unfold lenAt
                  rw [P9.out.cell (j := 3) rfl]
                  rfl
                change 200 - lenAt pb (w8.setCell ⟨pb, 5, none⟩ (.slice a8 (M.length + 1) c8)) < 200 - lenAt pb wr
                rw [hL9, HML.out]
                omega
            case step6 =>
              go_simp
              (go_at_call 62; refine (HCM.out _ (P3.out.below ((Below.refl _ _).drew)) M3.out.drew).mono ?_; rintro e w4 ⟨hm4, ⟨va, vc, rfl, ho4⟩, hp4⟩; unfold cdL; have e54 : w4.cell? ⟨pb, 5, none⟩ = some (.slice la M.length lc) := hp4.cell (j := 3) rfl)
              refine hK.out _ _ ?hS16 (fun hHeld' => ?rest16)
              case hS16 => ((try dsimp only); all_goals trivial)
              clear hK K
              (try simp only [pA, pZ, pS])
              clear hHeld
              have hHeld := hHeld'
              clear hHeld'
              refine wpAnyH_ready (rs := [4, 7]) (by kernel_rfl) (by simp) ?_
              refine AllReadyH.cons (o := ?o17) ?ho17 (fun K hK => ?step17) (AllReadyH.cons (o := ?o18) ?ho18 (fun K hK => ?step18) AllReadyH.nil)
              case ho17 => (simp only [List.getElem?_toArray, List.getElem?_cons_succ, List.getElem?_cons_zero]; rfl)
              case ho18 => (simp only [List.getElem?_toArray, List.getElem?_cons_succ, List.getElem?_cons_zero]; rfl)
              case step17 =>
                go_simp
                refine hK.out _ _ ?hS19 (fun hHeld' => ?rest19)
                case hS19 => ((try dsimp only); all_goals trivial)
                clear hK K
                (try simp only [pA, pZ, pS])
                clear hHeld
                have hHeld := hHeld'
                clear hHeld'
                refine wpAnyH_ready (rs := [7]) (by kernel_rfl) (by simp) ?_
                refine AllReadyH.cons (o := ?o20) ?ho20 (fun K hK => ?step20) AllReadyH.nil
                case ho20 => (simp only [List.getElem?_toArray, List.getElem?_cons_succ, List.getElem?_cons_zero]; rfl)
                go_simp
                have HA4 := hidX (fun o' => (Below.refl _ _).alloc (Nat.le_refl _) o' : ∀ o', Below w4.heap.size w4 (w4.alloc o')); have e54a : ∀ o', (w4.alloc o').cell? ⟨pb, 5, none⟩ = some (.slice la M.length lc) := fun o' => cell_below (HA4.out o') e54
                refine hK.out _ _ ?hS21 (fun hHeld' => ?rest21)
                case hS21 => ((try dsimp only); all_goals trivial)
                clear hK K
                (try simp only [pA, pZ, pS])
                clear hHeld
                have hHeld := hHeld'
                clear hHeld'
                have M4 := hidX (M3.out.drew.trans hm4)
                have hs4 := M4.out.rest.size
                have OA := hidX (fun o' => (((O3.out.mko (MkO.of_below ((Below.refl _ _).drew)) hpb).mko hm4 hpb).mko (MkO.of_below (HA4.out o')) hpb : CO (w4.alloc o') w.heap.size la lc M))
                have NX := hidX (show CdP w4 w.heap.size (v, .slice va v.slots.length vc) from ⟨va, vc, rfl, owns_base ho4 (by have := M3.out.rest.size; simpa using this)⟩)
                refine wpAnyH_ready (rs := [8]) (by kernel_rfl) (by simp) ?_
                refine AllReadyH.cons (o := ?o22) ?ho22 (fun K hK => ?step22) AllReadyH.nil
                case ho22 => (simp only [List.getElem?_toArray, List.getElem?_cons_succ, List.getElem?_cons_zero]; rfl)
                (refine step_append_any (by rfl) (.tmp 16) (.tmp 19) 33 (by rfl) w.heap.size 67 _ 4 56 Tryz.underlying33 infoCF (by rfl) (by omega) _ M.length _ (by rfl) (OA.out _).row (some ⟨_, 0, none⟩) 1 1 (by rfl) (cdC (v, .slice va v.slots.length vc)) (by rfl) (fun e => by cases e) (news_new _ _ _ _ (by simp)) (cdL_one _ _ _ _) (by unfold maxLen; omega) (by omega) (by simp; omega) ?_; intro a8 c8 w8 ho8 hg8 hl8)
                refine hK.out _ _ ?hS23 (fun hHeld' => ?rest23)
                case hS23 => ((try dsimp only); all_goals trivial)
                clear hK K
                (try simp only [pA, pZ, pS])
                clear hHeld
                have hHeld := hHeld'
                clear hHeld'
                have hrow : ∀ k, (Value.slice la M.length lc).ownBlock = some k → w.heap.size ≤ k := fun k hk => (O3.out.row.lt k hk).1
                have TY := hidX (fun o' g hg => own_type (OA.out o').row (k := g) hg)
                have M8 := hidX ((M4.out.trans (MkO.of_below (HA4.out _))).grown hg8.out hrow)
                have P8 := hidX ((hp4.below (HA4.out _)).keep ((Below.refl _ _).grown hg8.out (by simp; omega) (fun k hk => by have := hrow k hk; omega)))
                have C8 := hidX (show CO w8 w.heap.size a8 c8 (M ++ [((v, .slice va v.slots.length vc) : CdX)]) from ⟨by simpa using ho8.out, fun x hx => by
                  rcases List.mem_append.1 hx with hx | hx
                  · exact ((OA.out _).all x hx).grown hg8.out (TY.out _)
                  · simp at hx
                    subst hx
                    exact (NX.out.mko (MkO.of_below (HA4.out _)) hpb).grown hg8.out (TY.out _), O3.out.newer (Nat.le_refl _) ho4⟩)
                have f5 : w8.cell? ⟨pb, 5, none⟩ = some (.slice la M.length lc) := P8.out.cell (j := 3) rfl
                have g5 : w8.frozen? ⟨pb, 5, none⟩ = false := by
                  obtain ⟨k', hs'⟩ := P8.out.sc
                  simp [World.frozen?, hs'.blk]
                refine tk 9 hHeld ?_
                (try simp only [pA, pZ, pS])
                refine tk 10 hHeld ?_
                (try simp only [pA, pZ, pS])
                refine wpAnyH_ready (rs := [11]) (by kernel_rfl) (by simp) ?_
                refine AllReadyH.cons (o := ?o24) ?ho24 (fun K hK => ?step24) AllReadyH.nil
                case ho24 => (simp only [List.getElem?_toArray, List.getElem?_cons_succ, List.getElem?_cons_zero]; rfl)
                go_simp
                refine hK.out _ _ ?hS25 (fun hHeld' => ?rest25)
                case hS25 => ((try dsimp only); all_goals trivial)
                clear hK K
                (try dsimp only)
                clear hHeld
                have hHeld := hHeld'
                clear hHeld'
                refine wpAnyH_done (by kernel_rfl) ?_ _
                refine NoPanic.normal ?_
                have P9 := hidX (P8.out.list (v := .slice a8 (M.length + 1) c8) rfl)
                have M9 := hidX (MkO.set (w := w8) (g := pb) (o := 5) (.slice a8 (M.length + 1) c8))
                have C9 := hidX (C8.out.mko M9.out hpb)
                clear hHeld
                go_wp2_with fail
                go_roundw
                case rel => exact ⟨a8, c8, n, M ++ [((v, .slice va v.slots.length vc) : CdX)], l2, by simp; omega, C9.out, by simpa using P9.out, M8.out.trans M9.out, by simpa using PL2.out⟩
                case measure =>
                  have hL9 : lenAt pb (w8.setCell ⟨pb, 5, none⟩ (.slice a8 (M.length + 1) c8)) = M.length + 1 := by
                    unfold lenAt
                    rw [P9.out.cell (j := 3) rfl]
                    rfl
                  change 200 - lenAt pb (w8.setCell ⟨pb, 5, none⟩ (.slice a8 (M.length + 1) c8)) < 200 - lenAt pb wr
                  rw [hL9, HML.out]
                  omega
              case step18 =>
                go_simp
                have HA4 := hidX (fun o' => (Below.refl _ _).alloc (Nat.le_refl _) o' : ∀ o', Below w4.heap.size w4 (w4.alloc o')); have e54a : ∀ o', (w4.alloc o').cell? ⟨pb, 5, none⟩ = some (.slice la M.length lc) := fun o' => cell_below (HA4.out o') e54
                refine hK.out _ _ ?hS26 (fun hHeld' => ?rest26)
                case hS26 => ((try dsimp only); all_goals trivial)
                clear hK K
                (try simp only [pA, pZ, pS])
                clear hHeld
                have hHeld := hHeld'
                clear hHeld'
                refine wpAnyH_ready (rs := [4]) (by kernel_rfl) (by simp) ?_
                refine AllReadyH.cons (o := ?o27) ?ho27 (fun K hK => ?step27) AllReadyH.nil
                case ho27 => (simp only [List.getElem?_toArray, List.getElem?_cons_succ, List.getElem?_cons_zero]; rfl)
                go_simp
                refine hK.out _ _ ?hS28 (fun hHeld' => ?rest28)
                case hS28 => ((try dsimp only); all_goals trivial)
                clear hK K
                (try simp only [pA, pZ, pS])
                clear hHeld
                have hHeld := hHeld'
                clear hHeld'
                have M4 := hidX (M3.out.drew.trans hm4)
                have hs4 := M4.out.rest.size
                have OA := hidX (fun o' => (((O3.out.mko (MkO.of_below ((Below.refl _ _).drew)) hpb).mko hm4 hpb).mko (MkO.of_below (HA4.out o')) hpb : CO (w4.alloc o') w.heap.size la lc M))
                have NX := hidX (show CdP w4 w.heap.size (v, .slice va v.slots.length vc) from ⟨va, vc, rfl, owns_base ho4 (by have := M3.out.rest.size; simpa using this)⟩)
                refine wpAnyH_ready (rs := [8]) (by kernel_rfl) (by simp) ?_
                refine AllReadyH.cons (o := ?o29) ?ho29 (fun K hK => ?step29) AllReadyH.nil
                case ho29 => (simp only [List.getElem?_toArray, List.getElem?_cons_succ, List.getElem?_cons_zero]; rfl)
                (refine step_append_any (by rfl) (.tmp 16) (.tmp 19) 33 (by rfl) w.heap.size 67 _ 4 56 Tryz.underlying33 infoCF (by rfl) (by omega) _ M.length _ (by rfl) (OA.out _).row (some ⟨_, 0, none⟩) 1 1 (by rfl) (cdC (v, .slice va v.slots.length vc)) (by rfl) (fun e => by cases e) (news_new _ _ _ _ (by simp)) (cdL_one _ _ _ _) (by unfold maxLen; omega) (by omega) (by simp; omega) ?_; intro a8 c8 w8 ho8 hg8 hl8)
                refine hK.out _ _ ?hS30 (fun hHeld' => ?rest30)
                case hS30 => ((try dsimp only); all_goals trivial)
                clear hK K
                (try simp only [pA, pZ, pS])
                clear hHeld
                have hHeld := hHeld'
                clear hHeld'
                have hrow : ∀ k, (Value.slice la M.length lc).ownBlock = some k → w.heap.size ≤ k := fun k hk => (O3.out.row.lt k hk).1
                have TY := hidX (fun o' g hg => own_type (OA.out o').row (k := g) hg)
                have M8 := hidX ((M4.out.trans (MkO.of_below (HA4.out _))).grown hg8.out hrow)
                have P8 := hidX ((hp4.below (HA4.out _)).keep ((Below.refl _ _).grown hg8.out (by simp; omega) (fun k hk => by have := hrow k hk; omega)))
                have C8 := hidX (show CO w8 w.heap.size a8 c8 (M ++ [((v, .slice va v.slots.length vc) : CdX)]) from ⟨by simpa using ho8.out, fun x hx => by
                  rcases List.mem_append.1 hx with hx | hx
                  · exact ((OA.out _).all x hx).grown hg8.out (TY.out _)
                  · simp at hx
                    subst hx
                    exact (NX.out.mko (MkO.of_below (HA4.out _)) hpb).grown hg8.out (TY.out _), O3.out.newer (Nat.le_refl _) ho4⟩)
                have f5 : w8.cell? ⟨pb, 5, none⟩ = some (.slice la M.length lc) := P8.out.cell (j := 3) rfl
                have g5 : w8.frozen? ⟨pb, 5, none⟩ = false := by
                  obtain ⟨k', hs'⟩ := P8.out.sc
                  simp [World.frozen?, hs'.blk]
                refine tk 9 hHeld ?_
                (try simp only [pA, pZ, pS])
                refine tk 10 hHeld ?_
                (try simp only [pA, pZ, pS])
                refine wpAnyH_ready (rs := [11]) (by kernel_rfl) (by simp) ?_
                refine AllReadyH.cons (o := ?o31) ?ho31 (fun K hK => ?step31) AllReadyH.nil
                case ho31 => (simp only [List.getElem?_toArray, List.getElem?_cons_succ, List.getElem?_cons_zero]; rfl)
                go_simp
                refine hK.out _ _ ?hS32 (fun hHeld' => ?rest32)
                case hS32 => ((try dsimp only); all_goals trivial)
                clear hK K
                (try dsimp only)
                clear hHeld
                have hHeld := hHeld'
                clear hHeld'
                refine wpAnyH_done (by kernel_rfl) ?_ _
                refine NoPanic.normal ?_
                have P9 := hidX (P8.out.list (v := .slice a8 (M.length + 1) c8) rfl)
                have M9 := hidX (MkO.set (w := w8) (g := pb) (o := 5) (.slice a8 (M.length + 1) c8))
                have C9 := hidX (C8.out.mko M9.out hpb)
                clear hHeld
                go_wp2_with fail
                go_roundw
                case rel => exact ⟨a8, c8, n, M ++ [((v, .slice va v.slots.length vc) : CdX)], l2, by simp; omega, C9.out, by simpa using P9.out, M8.out.trans M9.out, by simpa using PL2.out⟩
                case measure =>
                  have hL9 : lenAt pb (w8.setCell ⟨pb, 5, none⟩ (.slice a8 (M.length + 1) c8)) = M.length + 1 := by
                    unfold lenAt
                    rw [P9.out.cell (j := 3) rfl]
                    rfl
                  change 200 - lenAt pb (w8.setCell ⟨pb, 5, none⟩ (.slice a8 (M.length + 1) c8)) < 200 - lenAt pb wr
                  rw [hL9, HML.out]
                  omega
end Go.Proofs.YtdhpoagjmiligaaGreatDoor

/-
  OUR OWN TEXT. EvalExpr: the model's side, whole (its first loop is written by genew7.py).
-/
import Derived.Test.YtpiglmkpmlogjaaEw6
import Derived.Test.YtpiglmkpmlogjaaSc4h
namespace Go.Proofs.Ytpiglmkpmlogjaa
open Go.RowKit
attribute [local go_sem ↓] Go.wp_at_zero Go.wp_at_succ

theorem evFlat_at : ∀ (S : List Ev) (i : Nat) (s : Ev) (j : Nat) (v : Value), S[i]? = some s → (evCells s)[j]? = some v → (S.flatMap evCells)[i * 4 + j]? = some v
  | [], i, s, j, v, h, _ => by simp at h
  | x :: r, 0, s, j, v, h, hj => by
    simp at h
    subst h
    have hl : j < (evCells x).length := (List.getElem?_eq_some_iff.1 hj).1
    rw [List.flatMap_cons, Nat.zero_mul, Nat.zero_add, List.getElem?_append_left hl]
    exact hj
  | x :: r, i + 1, s, j, v, h, hj => by
    rw [List.getElem?_cons_succ] at h
    have := evFlat_at r i s j v h hj
    rw [List.flatMap_cons, List.getElem?_append_right (by simp [evCells]; omega), show (i + 1) * 4 + j - (evCells x).length = i * 4 + j by simp [evCells]; omega]
    exact this
theorem EvsAt.owns {w : World} {base n : Nat} {a : Option Addr} {c : Nat} {S : List Ev} (h : w.ownsRow base 122 4 (.slice a n c) n (S.flatMap evCells)) : EvsAt none w a S := by
  intro i s hs
  obtain ⟨g, rfl, _, _, _⟩ := owns_cell h (evFlat_at S i s 0 _ hs rfl)
  refine ⟨g, 0, evCells s, rfl, Qb.bare _ _ _, rfl, ?_, rfl⟩
  intro j v hj
  obtain ⟨g', hg', _, hc, _⟩ := owns_cell h (evFlat_at S i s j v hs hj)
  cases hg'
  rwa [Nat.zero_add]
theorem evCells_one (s : Ev) : ∀ u ∈ evCells s, u.oneCell' = true := by
  intro u hu
  simp [evCells] at hu
  rcases hu with rfl | rfl | rfl | rfl <;> rfl
theorem infoEv7 : (Try.prog.info? 122).map (fun i => (i.zero, i.size, i.bytes)) = some (some (.agg #[.int .i64 0, .int .i64 0, .int .i64 0, .string ⟨#[]⟩]), 4, 40) := by kernel_rfl
theorem infoEvS : (Try.prog.info? 122).map (·.size) = some 4 := by kernel_rfl
theorem blk4 {w : World} {b : Nat} {t : TypeId} {E : Ev} (h : w.heap[b]? = some (.cells (evCells E).toArray t (0, 0))) : Bx4 w b t (.int .i64 E.code) (.int .i64 E.val.kind) (.int .i64 E.val.num) (.string E.val.sym) := h
def zVal : V := (0, 0, ⟨#[]⟩)
theorem evV_eq (s : Ev) : evV s = .agg (evCells s).toArray := rfl

set_option maxRecDepth 100000 in
set_option maxHeartbeats 1600000 in
theorem sEval_no (es : List Ex) (a : Option Addr) (c : Nat) (a2 : Option Addr) (n2 c2 : Nat) (bs : List Bd) (i : Int) (w : World) (hl : es.length ≤ 1048576) (hno : i < 0 ∨ (0 ≤ i ∧ (es.length : Int) ≤ i) ∨ (0 ≤ i ∧ i < (es.length : Int) ∧ 60 < es.length)) :
    Calls Try.prog 75 #[.slice a es.length c, .slice a2 n2 c2, .int .i64 i] w fun r w' => r = .returned (evV (evalX es bs i)) ∧ Below w.heap.size w w' := by
  have HN := hidE (evalX_no (es := es) (bs := bs) (i := i) (by omega))
  generalize evalX es bs i = E at HN ⊢
  rcases hno with h | ⟨h, h'⟩ | ⟨h, h', h''⟩
  all_goals
    (try have h60 : (60 : Int) < (es.length : Int) := by omega)
    go_enter Try.func75, Try.ntmps75
    go_wp2
    refine bodyPost_ret (v := evV (evBad 1)) (by simp [results, Try.results75, go_sem, evV_bad]) rfl ⟨by rw [HN.out], ?_⟩
    exact (Below.refl _ _).alloc (Nat.le_refl _) _

/-- What was made since is named by one letter. -/
theorem lift_world {P : World → Prop} {wr : World} {p1 p2 p3 : Obj} (h : ∀ W, Below wr.heap.size wr W → P W) : P (((wr.alloc p1).drew.alloc p2).alloc p3) :=
  h _ ((((Below.refl _ _).alloc (Nat.le_refl _) p1).drew.alloc (by simp) p2).alloc (by simp; omega) p3)
set_option maxRecDepth 100000 in
set_option maxHeartbeats 12800000 in
theorem sEval_go (es : List Ex) (a : Option Addr) (c : Nat) (a2 : Option Addr) (cb : Nat) (bs : List Bd) (i : Nat) {q q' : Option Nat} (w : World) (hv : ExsAt q w a es) (hbd : BdsAt q' w a2 bs) (hl2 : bs.length ≤ 1048576) (hi : i < es.length) (h60 : es.length ≤ 60) (ho : OpsOkE es) (hfe : ∀ e ∈ es, fits e.val.num = true) (hfb : ∀ b ∈ bs, fits b.val.num = true) :
    Calls Try.prog 75 #[.slice a es.length c, .slice a2 bs.length cb, .int .i64 (i : Int)] w fun r w' => r = .returned (evV (evalX es bs i)) ∧ Below w.heap.size w w' := by
  have HX := hidE (Bx4.made1 w 122 (.int .i64 0) (.int .i64 0) (.int .i64 0) (.string ⟨#[]⟩))
  obtain ⟨T, hT⟩ : ∃ T, T = es.take (i + 1) := ⟨_, rfl⟩
  have HT := hidE hT
  have HUN := hidE (fun (h : soundGo T 0 = false) => evalX_un (es := es) (bs := bs) (i := (i : Int)) (by rw [Int.toNat_natCast, ← HT.out]; exact h))
  have HI60 := hidE (And.intro hi h60)
  clear hT
  go_enter Try.func75, Try.ntmps75
  go_wp2
  clear hi h60
  go_loopw [7] (fun v wr => ∃ k : Nat, k ≤ i + 1 ∧ v = .int .i64 k ∧ soundGo T 0 = soundGo (T.drop k) k ∧ Bx4 wr w.heap.size 122 (.int .i64 0) (.int .i64 0) (.int .i64 0) (.string ⟨#[]⟩) ∧ Below w.heap.size w wr) (fun v _ => i + 1 - (intOf v).toNat)
  case atStart => exact ⟨0, by omega, rfl, rfl, HX.out, (Below.refl _ _).alloc (Nat.le_refl _) _⟩
  case round =>
    obtain ⟨k, hk, rfl, hG, hbx, hb⟩ := hrel
    have HG := hidE hG
    have HBX := hidE hbx
    have hsz := hb.size
    obtain ⟨⟨f0, f1, f2, f3⟩, ⟨z0, z1, z2, z3⟩, hlt⟩ := hbx.facts
    clear hG hbx
    by_cases hki : k < i + 1
    · have hkes : k < es.length := by have := HI60.out; omega
      obtain ⟨e, hek⟩ : ∃ e, es[k]? = some e := ⟨es[k], by simp [hkes]⟩
      obtain ⟨b, o, rfl, hq, c0, c1, c2, c3, c4, c5, c6, c7⟩ := (hv.below hb).get hek
      have hTk : T[k]? = some e := by rw [HT.out, List.getElem?_take, if_pos hki, hek]
      have HS : Hid (soundGo T 0 = (soundE k e && soundGo (T.drop (k + 1)) (k + 1))) := show soundGo T 0 = _ from by rw [HG.out, drop_cons hTk, soundGo_cons]
      obtain ⟨o0, o1⟩ := ho e (List.mem_of_getElem? hek)
      have HI := hidE (l2Is_ar e.op o0 o1)
      clear hq hTk HG hek
      have hkind : e.kind < 0 ∨ (0 ≤ e.kind ∧ 2 < e.kind) ∨ e.kind = 0 ∨ e.kind = 1 ∨ e.kind = 2 := by omega
      rcases hkind with kd | ⟨kd, kd'⟩ | kd | kd | kd
      · have HBAD := hidE (HUN.out (by rw [HS.out, show soundE k e = false from by unfold soundE; simp [show ¬ e.kind = 0 by omega, show ¬ e.kind = 1 by omega, show ¬ e.kind = 2 by omega]]; rfl))
        go_wp2_with fail
        refine bodyPost_ret (v := evV (evBad 1)) (by simp [results, Try.results75, go_sem, f0, f1, f2, f3, hlt, evV_bad]) rfl ⟨by rw [HBAD.out], ?_⟩
        (repeat (first | exact hb | (refine Below.alloc ?_ (by simp; omega) _) | (refine Below.drew ?_) | (refine Below.setCell ?_ (by simp) _)))
      · have HBAD := hidE (HUN.out (by rw [HS.out, show soundE k e = false from by unfold soundE; simp [show ¬ e.kind = 0 by omega, show ¬ e.kind = 1 by omega, show ¬ e.kind = 2 by omega]]; rfl))
        go_wp2_with fail
        refine bodyPost_ret (v := evV (evBad 1)) (by simp [results, Try.results75, go_sem, f0, f1, f2, f3, hlt, evV_bad]) rfl ⟨by rw [HBAD.out], ?_⟩
        (repeat (first | exact hb | (refine Below.alloc ?_ (by simp; omega) _) | (refine Below.drew ?_) | (refine Below.setCell ?_ (by simp) _)))
      · have HON : Hid (soundGo T 0 = soundGo (T.drop (k + 1)) (k + 1)) := show soundGo T 0 = _ from by rw [HS.out, show soundE k e = true from by simp [soundE, kd]]; rfl
        rw [kd] at c0
        clear HS HI
        go_wp2_with fail
        clear c0 c1 c2 c3 c4 c5 c6 c7
        refine wp_region_noPanic ?_
        refine wp_region_held_drew (S := (fun w' => w'.cell? ⟨wr.heap.size, 0, none⟩ = some (.int .i64 0) ∧ w'.cell? ⟨wr.heap.size, 1, none⟩ = some (.int .u8 e.op) ∧ w'.cell? ⟨wr.heap.size, 2, none⟩ = some (.string e.var) ∧ w'.cell? ⟨wr.heap.size, 3, none⟩ = some (.int .i64 e.val.kind) ∧ w'.cell? ⟨wr.heap.size, 4, none⟩ = some (.int .i64 e.val.num) ∧ w'.cell? ⟨wr.heap.size, 5, none⟩ = some (.string e.val.sym) ∧ w'.cell? ⟨wr.heap.size, 6, none⟩ = some (.int .i64 e.a) ∧ w'.cell? ⟨wr.heap.size, 7, none⟩ = some (.int .i64 e.b))) (by kernel_rfl) ?_ (fun hHeld => ?_)
        · (try dsimp only)
          (go_split_ands; refine ⟨?_, ?_, ?_, ?_, ?_, ?_, ?_, ?_⟩ <;> (simp [go_sem]; done))
        refine wpAnyH_take (i := 0) (oi := ?oi1) (v := ?v1) ?hi1 (by kernel_rfl) (by kernel_rfl) (by kernel_rfl) (fun _ _ _ h => h) (Or.inl ⟨?wd1, ?hy1⟩) hHeld ?rest1
        case hi1 => (simp only [List.getElem?_toArray, List.getElem?_cons_zero]; rfl)
        case wd1 => rfl
        case hy1 => (intro w hSw; (try dsimp only at hSw); go_simp; try with_reducible rfl)
        (try simp only [Act.put, List.setIfInBounds_toArray, List.set_cons_zero, List.set_cons_succ])
        refine wpAnyH_take (i := 1) (oi := ?oi2) (v := ?v2) ?hi2 (by kernel_rfl) (by kernel_rfl) (by kernel_rfl) (fun _ _ _ h => h) (Or.inl ⟨?wd2, ?hy2⟩) hHeld ?rest2
        case hi2 => (simp only [List.getElem?_toArray, List.getElem?_cons_succ, List.getElem?_cons_zero]; rfl)
        case wd2 => rfl
        case hy2 => (intro w hSw; (try dsimp only at hSw); go_simp; try with_reducible rfl)
        (try simp only [Act.put, List.setIfInBounds_toArray, List.set_cons_zero, List.set_cons_succ])
        refine wpAnyH_take (i := 2) (oi := ?oi3) (v := ?v3) ?hi3 (by kernel_rfl) (by kernel_rfl) (by kernel_rfl) (fun _ _ _ h => h) (Or.inl ⟨?wd3, ?hy3⟩) hHeld ?rest3
        case hi3 => (simp only [List.getElem?_toArray, List.getElem?_cons_succ, List.getElem?_cons_zero]; rfl)
        case wd3 => rfl
        case hy3 => (intro w hSw; (try dsimp only at hSw); go_simp; try with_reducible rfl)
        (try simp only [Act.put, List.setIfInBounds_toArray, List.set_cons_zero, List.set_cons_succ])
        refine wpAnyH_take (i := 3) (oi := ?oi4) (v := ?v4) ?hi4 (by kernel_rfl) (by kernel_rfl) (by kernel_rfl) (fun _ _ _ h => h) (Or.inl ⟨?wd4, ?hy4⟩) hHeld ?rest4
        case hi4 => (simp only [List.getElem?_toArray, List.getElem?_cons_succ, List.getElem?_cons_zero]; rfl)
        case wd4 => rfl
        case hy4 => (intro w hSw; (try dsimp only at hSw); go_simp; try with_reducible rfl)
        (try simp only [Act.put, List.setIfInBounds_toArray, List.set_cons_zero, List.set_cons_succ])
        refine wpAnyH_take (i := 4) (oi := ?oi5) (v := undef) ?hi5 (by kernel_rfl) (by kernel_rfl) (by kernel_rfl) (fun _ _ _ h => h) (Or.inr ⟨?wd5, rfl⟩) hHeld ?rest5
        case hi5 => (simp only [List.getElem?_toArray, List.getElem?_cons_succ, List.getElem?_cons_zero]; rfl)
        case wd5 => rfl
        (try simp only [Act.put, List.setIfInBounds_toArray, List.set_cons_zero, List.set_cons_succ])
        refine wpAnyH_take (i := 5) (oi := ?oi6) (v := undef) ?hi6 (by kernel_rfl) (by kernel_rfl) (by kernel_rfl) (fun _ _ _ h => h) (Or.inr ⟨?wd6, rfl⟩) hHeld ?rest6
        case hi6 => (simp only [List.getElem?_toArray, List.getElem?_cons_succ, List.getElem?_cons_zero]; rfl)
        case wd6 => rfl
        (try simp only [Act.put, List.setIfInBounds_toArray, List.set_cons_zero, List.set_cons_succ])
        refine wpAnyH_take (i := 6) (oi := ?oi7) (v := undef) ?hi7 (by kernel_rfl) (by kernel_rfl) (by kernel_rfl) (fun _ _ _ h => h) (Or.inr ⟨?wd7, rfl⟩) hHeld ?rest7
        case hi7 => (simp only [List.getElem?_toArray, List.getElem?_cons_succ, List.getElem?_cons_zero]; rfl)
        case wd7 => rfl
        (try simp only [Act.put, List.setIfInBounds_toArray, List.set_cons_zero, List.set_cons_succ])
        refine wpAnyH_take (i := 7) (oi := ?oi8) (v := undef) ?hi8 (by kernel_rfl) (by kernel_rfl) (by kernel_rfl) (fun _ _ _ h => h) (Or.inr ⟨?wd8, rfl⟩) hHeld ?rest8
        case hi8 => (simp only [List.getElem?_toArray, List.getElem?_cons_succ, List.getElem?_cons_zero]; rfl)
        case wd8 => rfl
        (try simp only [Act.put, List.setIfInBounds_toArray, List.set_cons_zero, List.set_cons_succ])
        refine wpAnyH_take (i := 8) (oi := ?oi9) (v := undef) ?hi9 (by kernel_rfl) (by kernel_rfl) (by kernel_rfl) (fun _ _ _ h => h) (Or.inr ⟨?wd9, rfl⟩) hHeld ?rest9
        case hi9 => (simp only [List.getElem?_toArray, List.getElem?_cons_succ, List.getElem?_cons_zero]; rfl)
        case wd9 => rfl
        (try simp only [Act.put, List.setIfInBounds_toArray, List.set_cons_zero, List.set_cons_succ])
        refine wpAnyH_take (i := 9) (oi := ?oi10) (v := undef) ?hi10 (by kernel_rfl) (by kernel_rfl) (by kernel_rfl) (fun _ _ _ h => h) (Or.inr ⟨?wd10, rfl⟩) hHeld ?rest10
        case hi10 => (simp only [List.getElem?_toArray, List.getElem?_cons_succ, List.getElem?_cons_zero]; rfl)
        case wd10 => rfl
        (try simp only [Act.put, List.setIfInBounds_toArray, List.set_cons_zero, List.set_cons_succ])
        refine wpAnyH_take (i := 10) (oi := ?oi11) (v := undef) ?hi11 (by kernel_rfl) (by kernel_rfl) (by kernel_rfl) (fun _ _ _ h => h) (Or.inr ⟨?wd11, rfl⟩) hHeld ?rest11
        case hi11 => (simp only [List.getElem?_toArray, List.getElem?_cons_succ, List.getElem?_cons_zero]; rfl)
        case wd11 => rfl
        (try simp only [Act.put, List.setIfInBounds_toArray, List.set_cons_zero, List.set_cons_succ])
        refine wpAnyH_take (i := 11) (oi := ?oi12) (v := undef) ?hi12 (by kernel_rfl) (by kernel_rfl) (by kernel_rfl) (fun _ _ _ h => h) (Or.inr ⟨?wd12, rfl⟩) hHeld ?rest12
        case hi12 => (simp only [List.getElem?_toArray, List.getElem?_cons_succ, List.getElem?_cons_zero]; rfl)
        case wd12 => rfl
        (try simp only [Act.put, List.setIfInBounds_toArray, List.set_cons_zero, List.set_cons_succ])
        refine wpAnyH_take (i := 12) (oi := ?oi13) (v := undef) ?hi13 (by kernel_rfl) (by kernel_rfl) (by kernel_rfl) (fun _ _ _ h => h) (Or.inr ⟨?wd13, rfl⟩) hHeld ?rest13
        case hi13 => (simp only [List.getElem?_toArray, List.getElem?_cons_succ, List.getElem?_cons_zero]; rfl)
        case wd13 => rfl
        (try simp only [Act.put, List.setIfInBounds_toArray, List.set_cons_zero, List.set_cons_succ])
        refine wpAnyH_take (i := 13) (oi := ?oi14) (v := undef) ?hi14 (by kernel_rfl) (by kernel_rfl) (by kernel_rfl) (fun _ _ _ h => h) (Or.inr ⟨?wd14, rfl⟩) hHeld ?rest14
        case hi14 => (simp only [List.getElem?_toArray, List.getElem?_cons_succ, List.getElem?_cons_zero]; rfl)
        case wd14 => rfl
        (try simp only [Act.put, List.setIfInBounds_toArray, List.set_cons_zero, List.set_cons_succ])
        refine wpAnyH_take (i := 14) (oi := ?oi15) (v := undef) ?hi15 (by kernel_rfl) (by kernel_rfl) (by kernel_rfl) (fun _ _ _ h => h) (Or.inr ⟨?wd15, rfl⟩) hHeld ?rest15
        case hi15 => (simp only [List.getElem?_toArray, List.getElem?_cons_succ, List.getElem?_cons_zero]; rfl)
        case wd15 => rfl
        (try simp only [Act.put, List.setIfInBounds_toArray, List.set_cons_zero, List.set_cons_succ])
        refine wpAnyH_take (i := 15) (oi := ?oi16) (v := undef) ?hi16 (by kernel_rfl) (by kernel_rfl) (by kernel_rfl) (fun _ _ _ h => h) (Or.inr ⟨?wd16, rfl⟩) hHeld ?rest16
        case hi16 => (simp only [List.getElem?_toArray, List.getElem?_cons_succ, List.getElem?_cons_zero]; rfl)
        case wd16 => rfl
        (try simp only [Act.put, List.setIfInBounds_toArray, List.set_cons_zero, List.set_cons_succ])
        refine wpAnyH_take (i := 16) (oi := ?oi17) (v := undef) ?hi17 (by kernel_rfl) (by kernel_rfl) (by kernel_rfl) (fun _ _ _ h => h) (Or.inr ⟨?wd17, rfl⟩) hHeld ?rest17
        case hi17 => (simp only [List.getElem?_toArray, List.getElem?_cons_succ, List.getElem?_cons_zero]; rfl)
        case wd17 => rfl
        (try simp only [Act.put, List.setIfInBounds_toArray, List.set_cons_zero, List.set_cons_succ])
        refine wpAnyH_take (i := 17) (oi := ?oi18) (v := undef) ?hi18 (by kernel_rfl) (by kernel_rfl) (by kernel_rfl) (fun _ _ _ h => h) (Or.inr ⟨?wd18, rfl⟩) hHeld ?rest18
        case hi18 => (simp only [List.getElem?_toArray, List.getElem?_cons_succ, List.getElem?_cons_zero]; rfl)
        case wd18 => rfl
        (try simp only [Act.put, List.setIfInBounds_toArray, List.set_cons_zero, List.set_cons_succ])
        refine wpAnyH_take (i := 18) (oi := ?oi19) (v := undef) ?hi19 (by kernel_rfl) (by kernel_rfl) (by kernel_rfl) (fun _ _ _ h => h) (Or.inr ⟨?wd19, rfl⟩) hHeld ?rest19
        case hi19 => (simp only [List.getElem?_toArray, List.getElem?_cons_succ, List.getElem?_cons_zero]; rfl)
        case wd19 => rfl
        (try simp only [Act.put, List.setIfInBounds_toArray, List.set_cons_zero, List.set_cons_succ])
        refine wpAnyH_take (i := 19) (oi := ?oi20) (v := undef) ?hi20 (by kernel_rfl) (by kernel_rfl) (by kernel_rfl) (fun _ _ _ h => h) (Or.inr ⟨?wd20, rfl⟩) hHeld ?rest20
        case hi20 => (simp only [List.getElem?_toArray, List.getElem?_cons_succ, List.getElem?_cons_zero]; rfl)
        case wd20 => rfl
        (try simp only [Act.put, List.setIfInBounds_toArray, List.set_cons_zero, List.set_cons_succ])
        refine wpAnyH_take (i := 20) (oi := ?oi21) (v := undef) ?hi21 (by kernel_rfl) (by kernel_rfl) (by kernel_rfl) (fun _ _ _ h => h) (Or.inr ⟨?wd21, rfl⟩) hHeld ?rest21
        case hi21 => (simp only [List.getElem?_toArray, List.getElem?_cons_succ, List.getElem?_cons_zero]; rfl)
        case wd21 => rfl
        (try simp only [Act.put, List.setIfInBounds_toArray, List.set_cons_zero, List.set_cons_succ])
        refine wpAnyH_take (i := 21) (oi := ?oi22) (v := undef) ?hi22 (by kernel_rfl) (by kernel_rfl) (by kernel_rfl) (fun _ _ _ h => h) (Or.inr ⟨?wd22, rfl⟩) hHeld ?rest22
        case hi22 => (simp only [List.getElem?_toArray, List.getElem?_cons_succ, List.getElem?_cons_zero]; rfl)
        case wd22 => rfl
        (try simp only [Act.put, List.setIfInBounds_toArray, List.set_cons_zero, List.set_cons_succ])
        refine wpAnyH_take (i := 22) (oi := ?oi23) (v := undef) ?hi23 (by kernel_rfl) (by kernel_rfl) (by kernel_rfl) (fun _ _ _ h => h) (Or.inr ⟨?wd23, rfl⟩) hHeld ?rest23
        case hi23 => (simp only [List.getElem?_toArray, List.getElem?_cons_succ, List.getElem?_cons_zero]; rfl)
        case wd23 => rfl
        (try simp only [Act.put, List.setIfInBounds_toArray, List.set_cons_zero, List.set_cons_succ])
        refine wpAnyH_take (i := 23) (oi := ?oi24) (v := undef) ?hi24 (by kernel_rfl) (by kernel_rfl) (by kernel_rfl) (fun _ _ _ h => h) (Or.inr ⟨?wd24, rfl⟩) hHeld ?rest24
        case hi24 => (simp only [List.getElem?_toArray, List.getElem?_cons_succ, List.getElem?_cons_zero]; rfl)
        case wd24 => rfl
        (try simp only [Act.put, List.setIfInBounds_toArray, List.set_cons_zero, List.set_cons_succ])
        refine wpAnyH_take (i := 24) (oi := ?oi25) (v := undef) ?hi25 (by kernel_rfl) (by kernel_rfl) (by kernel_rfl) (fun _ _ _ h => h) (Or.inr ⟨?wd25, rfl⟩) hHeld ?rest25
        case hi25 => (simp only [List.getElem?_toArray, List.getElem?_cons_succ, List.getElem?_cons_zero]; rfl)
        case wd25 => rfl
        (try simp only [Act.put, List.setIfInBounds_toArray, List.set_cons_zero, List.set_cons_succ])
        refine wpAnyH_take (i := 25) (oi := ?oi26) (v := undef) ?hi26 (by kernel_rfl) (by kernel_rfl) (by kernel_rfl) (fun _ _ _ h => h) (Or.inr ⟨?wd26, rfl⟩) hHeld ?rest26
        case hi26 => (simp only [List.getElem?_toArray, List.getElem?_cons_succ, List.getElem?_cons_zero]; rfl)
        case wd26 => rfl
        (try simp only [Act.put, List.setIfInBounds_toArray, List.set_cons_zero, List.set_cons_succ])
        refine wpAnyH_take (i := 26) (oi := ?oi27) (v := undef) ?hi27 (by kernel_rfl) (by kernel_rfl) (by kernel_rfl) (fun _ _ _ h => h) (Or.inr ⟨?wd27, rfl⟩) hHeld ?rest27
        case hi27 => (simp only [List.getElem?_toArray, List.getElem?_cons_succ, List.getElem?_cons_zero]; rfl)
        case wd27 => rfl
        (try simp only [Act.put, List.setIfInBounds_toArray, List.set_cons_zero, List.set_cons_succ])
        refine wpAnyH_take (i := 27) (oi := ?oi28) (v := undef) ?hi28 (by kernel_rfl) (by kernel_rfl) (by kernel_rfl) (fun _ _ _ h => h) (Or.inr ⟨?wd28, rfl⟩) hHeld ?rest28
        case hi28 => (simp only [List.getElem?_toArray, List.getElem?_cons_succ, List.getElem?_cons_zero]; rfl)
        case wd28 => rfl
        (try simp only [Act.put, List.setIfInBounds_toArray, List.set_cons_zero, List.set_cons_succ])
        refine wpAnyH_take (i := 28) (oi := ?oi29) (v := undef) ?hi29 (by kernel_rfl) (by kernel_rfl) (by kernel_rfl) (fun _ _ _ h => h) (Or.inr ⟨?wd29, rfl⟩) hHeld ?rest29
        case hi29 => (simp only [List.getElem?_toArray, List.getElem?_cons_succ, List.getElem?_cons_zero]; rfl)
        case wd29 => rfl
        (try simp only [Act.put, List.setIfInBounds_toArray, List.set_cons_zero, List.set_cons_succ])
        refine wpAnyH_take (i := 29) (oi := ?oi30) (v := undef) ?hi30 (by kernel_rfl) (by kernel_rfl) (by kernel_rfl) (fun _ _ _ h => h) (Or.inr ⟨?wd30, rfl⟩) hHeld ?rest30
        case hi30 => (simp only [List.getElem?_toArray, List.getElem?_cons_succ, List.getElem?_cons_zero]; rfl)
        case wd30 => rfl
        (try simp only [Act.put, List.setIfInBounds_toArray, List.set_cons_zero, List.set_cons_succ])
        refine wpAnyH_take (i := 30) (oi := ?oi31) (v := undef) ?hi31 (by kernel_rfl) (by kernel_rfl) (by kernel_rfl) (fun _ _ _ h => h) (Or.inr ⟨?wd31, rfl⟩) hHeld ?rest31
        case hi31 => (simp only [List.getElem?_toArray, List.getElem?_cons_succ, List.getElem?_cons_zero]; rfl)
        case wd31 => rfl
        (try simp only [Act.put, List.setIfInBounds_toArray, List.set_cons_zero, List.set_cons_succ])
        refine wpAnyH_take (i := 31) (oi := ?oi32) (v := undef) ?hi32 (by kernel_rfl) (by kernel_rfl) (by kernel_rfl) (fun _ _ _ h => h) (Or.inr ⟨?wd32, rfl⟩) hHeld ?rest32
        case hi32 => (simp only [List.getElem?_toArray, List.getElem?_cons_succ, List.getElem?_cons_zero]; rfl)
        case wd32 => rfl
        (try simp only [Act.put, List.setIfInBounds_toArray, List.set_cons_zero, List.set_cons_succ])
        refine wpAnyH_take (i := 32) (oi := ?oi33) (v := undef) ?hi33 (by kernel_rfl) (by kernel_rfl) (by kernel_rfl) (fun _ _ _ h => h) (Or.inr ⟨?wd33, rfl⟩) hHeld ?rest33
        case hi33 => (simp only [List.getElem?_toArray, List.getElem?_cons_succ, List.getElem?_cons_zero]; rfl)
        case wd33 => rfl
        (try simp only [Act.put, List.setIfInBounds_toArray, List.set_cons_zero, List.set_cons_succ])
        refine wpAnyH_take (i := 33) (oi := ?oi34) (v := ?v34) ?hi34 (by kernel_rfl) (by kernel_rfl) (by kernel_rfl) (fun _ _ _ h => h) (Or.inl ⟨?wd34, ?hy34⟩) hHeld ?rest34
        case hi34 => (simp only [List.getElem?_toArray, List.getElem?_cons_succ, List.getElem?_cons_zero]; rfl)
        case wd34 => rfl
        case hy34 => (intro w hSw; (try dsimp only at hSw); go_simp; try with_reducible rfl)
        (try simp only [Act.put, List.setIfInBounds_toArray, List.set_cons_zero, List.set_cons_succ])
        refine wpAnyH_done (by kernel_rfl) ?_ _
        refine NoPanic.normal ?_
        go_wp2_with fail
        go_roundw
        case rel => (refine ⟨k + 1, by omega, by go_num, HON.out, HBX.out.bel ?_, ?_⟩ <;> (repeat (first | exact hb | exact Below.refl _ _ | (refine Below.alloc ?_ (by first | (simp; done) | (simp; omega) | omega) _) | (refine Below.drew ?_) | (refine Below.setCell ?_ (by simp) _))))
        case measure => (simp [intOf]; omega)
      · have HON : Hid (soundGo T 0 = soundGo (T.drop (k + 1)) (k + 1)) := show soundGo T 0 = _ from by rw [HS.out, show soundE k e = true from by simp [soundE, kd]]; rfl
        rw [kd] at c0
        clear HS HI
        go_wp2_with fail
        clear c0 c1 c2 c3 c4 c5 c6 c7
        refine wp_region_noPanic ?_
        refine wp_region_held_drew (S := (fun w' => w'.cell? ⟨wr.heap.size, 0, none⟩ = some (.int .i64 1) ∧ w'.cell? ⟨wr.heap.size, 1, none⟩ = some (.int .u8 e.op) ∧ w'.cell? ⟨wr.heap.size, 2, none⟩ = some (.string e.var) ∧ w'.cell? ⟨wr.heap.size, 3, none⟩ = some (.int .i64 e.val.kind) ∧ w'.cell? ⟨wr.heap.size, 4, none⟩ = some (.int .i64 e.val.num) ∧ w'.cell? ⟨wr.heap.size, 5, none⟩ = some (.string e.val.sym) ∧ w'.cell? ⟨wr.heap.size, 6, none⟩ = some (.int .i64 e.a) ∧ w'.cell? ⟨wr.heap.size, 7, none⟩ = some (.int .i64 e.b))) (by kernel_rfl) ?_ (fun hHeld => ?_)
        · (try dsimp only)
          (go_split_ands; refine ⟨?_, ?_, ?_, ?_, ?_, ?_, ?_, ?_⟩ <;> (simp [go_sem]; done))
        refine wpAnyH_take (i := 0) (oi := ?oi35) (v := ?v35) ?hi35 (by kernel_rfl) (by kernel_rfl) (by kernel_rfl) (fun _ _ _ h => h) (Or.inl ⟨?wd35, ?hy35⟩) hHeld ?rest35
        case hi35 => (simp only [List.getElem?_toArray, List.getElem?_cons_zero]; rfl)
        case wd35 => rfl
        case hy35 => (intro w hSw; (try dsimp only at hSw); go_simp; try with_reducible rfl)
        (try simp only [Act.put, List.setIfInBounds_toArray, List.set_cons_zero, List.set_cons_succ])
        refine wpAnyH_take (i := 1) (oi := ?oi36) (v := ?v36) ?hi36 (by kernel_rfl) (by kernel_rfl) (by kernel_rfl) (fun _ _ _ h => h) (Or.inl ⟨?wd36, ?hy36⟩) hHeld ?rest36
        case hi36 => (simp only [List.getElem?_toArray, List.getElem?_cons_succ, List.getElem?_cons_zero]; rfl)
        case wd36 => rfl
        case hy36 => (intro w hSw; (try dsimp only at hSw); go_simp; try with_reducible rfl)
        (try simp only [Act.put, List.setIfInBounds_toArray, List.set_cons_zero, List.set_cons_succ])
        refine wpAnyH_take (i := 2) (oi := ?oi37) (v := ?v37) ?hi37 (by kernel_rfl) (by kernel_rfl) (by kernel_rfl) (fun _ _ _ h => h) (Or.inl ⟨?wd37, ?hy37⟩) hHeld ?rest37
        case hi37 => (simp only [List.getElem?_toArray, List.getElem?_cons_succ, List.getElem?_cons_zero]; rfl)
        case wd37 => rfl
        case hy37 => (intro w hSw; (try dsimp only at hSw); go_simp; try with_reducible rfl)
        (try simp only [Act.put, List.setIfInBounds_toArray, List.set_cons_zero, List.set_cons_succ])
        refine wpAnyH_take (i := 3) (oi := ?oi38) (v := ?v38) ?hi38 (by kernel_rfl) (by kernel_rfl) (by kernel_rfl) (fun _ _ _ h => h) (Or.inl ⟨?wd38, ?hy38⟩) hHeld ?rest38
        case hi38 => (simp only [List.getElem?_toArray, List.getElem?_cons_succ, List.getElem?_cons_zero]; rfl)
        case wd38 => rfl
        case hy38 => (intro w hSw; (try dsimp only at hSw); go_simp; try with_reducible rfl)
        (try simp only [Act.put, List.setIfInBounds_toArray, List.set_cons_zero, List.set_cons_succ])
        refine wpAnyH_take (i := 4) (oi := ?oi39) (v := undef) ?hi39 (by kernel_rfl) (by kernel_rfl) (by kernel_rfl) (fun _ _ _ h => h) (Or.inr ⟨?wd39, rfl⟩) hHeld ?rest39
        case hi39 => (simp only [List.getElem?_toArray, List.getElem?_cons_succ, List.getElem?_cons_zero]; rfl)
        case wd39 => rfl
        (try simp only [Act.put, List.setIfInBounds_toArray, List.set_cons_zero, List.set_cons_succ])
        refine wpAnyH_take (i := 5) (oi := ?oi40) (v := undef) ?hi40 (by kernel_rfl) (by kernel_rfl) (by kernel_rfl) (fun _ _ _ h => h) (Or.inr ⟨?wd40, rfl⟩) hHeld ?rest40
        case hi40 => (simp only [List.getElem?_toArray, List.getElem?_cons_succ, List.getElem?_cons_zero]; rfl)
        case wd40 => rfl
        (try simp only [Act.put, List.setIfInBounds_toArray, List.set_cons_zero, List.set_cons_succ])
        refine wpAnyH_take (i := 6) (oi := ?oi41) (v := undef) ?hi41 (by kernel_rfl) (by kernel_rfl) (by kernel_rfl) (fun _ _ _ h => h) (Or.inr ⟨?wd41, rfl⟩) hHeld ?rest41
        case hi41 => (simp only [List.getElem?_toArray, List.getElem?_cons_succ, List.getElem?_cons_zero]; rfl)
        case wd41 => rfl
        (try simp only [Act.put, List.setIfInBounds_toArray, List.set_cons_zero, List.set_cons_succ])
        refine wpAnyH_take (i := 7) (oi := ?oi42) (v := undef) ?hi42 (by kernel_rfl) (by kernel_rfl) (by kernel_rfl) (fun _ _ _ h => h) (Or.inr ⟨?wd42, rfl⟩) hHeld ?rest42
        case hi42 => (simp only [List.getElem?_toArray, List.getElem?_cons_succ, List.getElem?_cons_zero]; rfl)
        case wd42 => rfl
        (try simp only [Act.put, List.setIfInBounds_toArray, List.set_cons_zero, List.set_cons_succ])
        refine wpAnyH_take (i := 8) (oi := ?oi43) (v := undef) ?hi43 (by kernel_rfl) (by kernel_rfl) (by kernel_rfl) (fun _ _ _ h => h) (Or.inr ⟨?wd43, rfl⟩) hHeld ?rest43
        case hi43 => (simp only [List.getElem?_toArray, List.getElem?_cons_succ, List.getElem?_cons_zero]; rfl)
        case wd43 => rfl
        (try simp only [Act.put, List.setIfInBounds_toArray, List.set_cons_zero, List.set_cons_succ])
        refine wpAnyH_take (i := 9) (oi := ?oi44) (v := undef) ?hi44 (by kernel_rfl) (by kernel_rfl) (by kernel_rfl) (fun _ _ _ h => h) (Or.inr ⟨?wd44, rfl⟩) hHeld ?rest44
        case hi44 => (simp only [List.getElem?_toArray, List.getElem?_cons_succ, List.getElem?_cons_zero]; rfl)
        case wd44 => rfl
        (try simp only [Act.put, List.setIfInBounds_toArray, List.set_cons_zero, List.set_cons_succ])
        refine wpAnyH_take (i := 10) (oi := ?oi45) (v := undef) ?hi45 (by kernel_rfl) (by kernel_rfl) (by kernel_rfl) (fun _ _ _ h => h) (Or.inr ⟨?wd45, rfl⟩) hHeld ?rest45
        case hi45 => (simp only [List.getElem?_toArray, List.getElem?_cons_succ, List.getElem?_cons_zero]; rfl)
        case wd45 => rfl
        (try simp only [Act.put, List.setIfInBounds_toArray, List.set_cons_zero, List.set_cons_succ])
        refine wpAnyH_take (i := 11) (oi := ?oi46) (v := undef) ?hi46 (by kernel_rfl) (by kernel_rfl) (by kernel_rfl) (fun _ _ _ h => h) (Or.inr ⟨?wd46, rfl⟩) hHeld ?rest46
        case hi46 => (simp only [List.getElem?_toArray, List.getElem?_cons_succ, List.getElem?_cons_zero]; rfl)
        case wd46 => rfl
        (try simp only [Act.put, List.setIfInBounds_toArray, List.set_cons_zero, List.set_cons_succ])
        refine wpAnyH_take (i := 12) (oi := ?oi47) (v := undef) ?hi47 (by kernel_rfl) (by kernel_rfl) (by kernel_rfl) (fun _ _ _ h => h) (Or.inr ⟨?wd47, rfl⟩) hHeld ?rest47
        case hi47 => (simp only [List.getElem?_toArray, List.getElem?_cons_succ, List.getElem?_cons_zero]; rfl)
        case wd47 => rfl
        (try simp only [Act.put, List.setIfInBounds_toArray, List.set_cons_zero, List.set_cons_succ])
        refine wpAnyH_take (i := 13) (oi := ?oi48) (v := undef) ?hi48 (by kernel_rfl) (by kernel_rfl) (by kernel_rfl) (fun _ _ _ h => h) (Or.inr ⟨?wd48, rfl⟩) hHeld ?rest48
        case hi48 => (simp only [List.getElem?_toArray, List.getElem?_cons_succ, List.getElem?_cons_zero]; rfl)
        case wd48 => rfl
        (try simp only [Act.put, List.setIfInBounds_toArray, List.set_cons_zero, List.set_cons_succ])
        refine wpAnyH_take (i := 14) (oi := ?oi49) (v := undef) ?hi49 (by kernel_rfl) (by kernel_rfl) (by kernel_rfl) (fun _ _ _ h => h) (Or.inr ⟨?wd49, rfl⟩) hHeld ?rest49
        case hi49 => (simp only [List.getElem?_toArray, List.getElem?_cons_succ, List.getElem?_cons_zero]; rfl)
        case wd49 => rfl
        (try simp only [Act.put, List.setIfInBounds_toArray, List.set_cons_zero, List.set_cons_succ])
        refine wpAnyH_take (i := 15) (oi := ?oi50) (v := undef) ?hi50 (by kernel_rfl) (by kernel_rfl) (by kernel_rfl) (fun _ _ _ h => h) (Or.inr ⟨?wd50, rfl⟩) hHeld ?rest50
        case hi50 => (simp only [List.getElem?_toArray, List.getElem?_cons_succ, List.getElem?_cons_zero]; rfl)
        case wd50 => rfl
        (try simp only [Act.put, List.setIfInBounds_toArray, List.set_cons_zero, List.set_cons_succ])
        refine wpAnyH_take (i := 16) (oi := ?oi51) (v := undef) ?hi51 (by kernel_rfl) (by kernel_rfl) (by kernel_rfl) (fun _ _ _ h => h) (Or.inr ⟨?wd51, rfl⟩) hHeld ?rest51
        case hi51 => (simp only [List.getElem?_toArray, List.getElem?_cons_succ, List.getElem?_cons_zero]; rfl)
        case wd51 => rfl
        (try simp only [Act.put, List.setIfInBounds_toArray, List.set_cons_zero, List.set_cons_succ])
        refine wpAnyH_take (i := 17) (oi := ?oi52) (v := undef) ?hi52 (by kernel_rfl) (by kernel_rfl) (by kernel_rfl) (fun _ _ _ h => h) (Or.inr ⟨?wd52, rfl⟩) hHeld ?rest52
        case hi52 => (simp only [List.getElem?_toArray, List.getElem?_cons_succ, List.getElem?_cons_zero]; rfl)
        case wd52 => rfl
        (try simp only [Act.put, List.setIfInBounds_toArray, List.set_cons_zero, List.set_cons_succ])
        refine wpAnyH_take (i := 18) (oi := ?oi53) (v := undef) ?hi53 (by kernel_rfl) (by kernel_rfl) (by kernel_rfl) (fun _ _ _ h => h) (Or.inr ⟨?wd53, rfl⟩) hHeld ?rest53
        case hi53 => (simp only [List.getElem?_toArray, List.getElem?_cons_succ, List.getElem?_cons_zero]; rfl)
        case wd53 => rfl
        (try simp only [Act.put, List.setIfInBounds_toArray, List.set_cons_zero, List.set_cons_succ])
        refine wpAnyH_take (i := 19) (oi := ?oi54) (v := undef) ?hi54 (by kernel_rfl) (by kernel_rfl) (by kernel_rfl) (fun _ _ _ h => h) (Or.inr ⟨?wd54, rfl⟩) hHeld ?rest54
        case hi54 => (simp only [List.getElem?_toArray, List.getElem?_cons_succ, List.getElem?_cons_zero]; rfl)
        case wd54 => rfl
        (try simp only [Act.put, List.setIfInBounds_toArray, List.set_cons_zero, List.set_cons_succ])
        refine wpAnyH_take (i := 20) (oi := ?oi55) (v := undef) ?hi55 (by kernel_rfl) (by kernel_rfl) (by kernel_rfl) (fun _ _ _ h => h) (Or.inr ⟨?wd55, rfl⟩) hHeld ?rest55
        case hi55 => (simp only [List.getElem?_toArray, List.getElem?_cons_succ, List.getElem?_cons_zero]; rfl)
        case wd55 => rfl
        (try simp only [Act.put, List.setIfInBounds_toArray, List.set_cons_zero, List.set_cons_succ])
        refine wpAnyH_take (i := 21) (oi := ?oi56) (v := undef) ?hi56 (by kernel_rfl) (by kernel_rfl) (by kernel_rfl) (fun _ _ _ h => h) (Or.inr ⟨?wd56, rfl⟩) hHeld ?rest56
        case hi56 => (simp only [List.getElem?_toArray, List.getElem?_cons_succ, List.getElem?_cons_zero]; rfl)
        case wd56 => rfl
        (try simp only [Act.put, List.setIfInBounds_toArray, List.set_cons_zero, List.set_cons_succ])
        refine wpAnyH_take (i := 22) (oi := ?oi57) (v := undef) ?hi57 (by kernel_rfl) (by kernel_rfl) (by kernel_rfl) (fun _ _ _ h => h) (Or.inr ⟨?wd57, rfl⟩) hHeld ?rest57
        case hi57 => (simp only [List.getElem?_toArray, List.getElem?_cons_succ, List.getElem?_cons_zero]; rfl)
        case wd57 => rfl
        (try simp only [Act.put, List.setIfInBounds_toArray, List.set_cons_zero, List.set_cons_succ])
        refine wpAnyH_take (i := 23) (oi := ?oi58) (v := undef) ?hi58 (by kernel_rfl) (by kernel_rfl) (by kernel_rfl) (fun _ _ _ h => h) (Or.inr ⟨?wd58, rfl⟩) hHeld ?rest58
        case hi58 => (simp only [List.getElem?_toArray, List.getElem?_cons_succ, List.getElem?_cons_zero]; rfl)
        case wd58 => rfl
        (try simp only [Act.put, List.setIfInBounds_toArray, List.set_cons_zero, List.set_cons_succ])
        refine wpAnyH_take (i := 24) (oi := ?oi59) (v := undef) ?hi59 (by kernel_rfl) (by kernel_rfl) (by kernel_rfl) (fun _ _ _ h => h) (Or.inr ⟨?wd59, rfl⟩) hHeld ?rest59
        case hi59 => (simp only [List.getElem?_toArray, List.getElem?_cons_succ, List.getElem?_cons_zero]; rfl)
        case wd59 => rfl
        (try simp only [Act.put, List.setIfInBounds_toArray, List.set_cons_zero, List.set_cons_succ])
        refine wpAnyH_take (i := 25) (oi := ?oi60) (v := undef) ?hi60 (by kernel_rfl) (by kernel_rfl) (by kernel_rfl) (fun _ _ _ h => h) (Or.inr ⟨?wd60, rfl⟩) hHeld ?rest60
        case hi60 => (simp only [List.getElem?_toArray, List.getElem?_cons_succ, List.getElem?_cons_zero]; rfl)
        case wd60 => rfl
        (try simp only [Act.put, List.setIfInBounds_toArray, List.set_cons_zero, List.set_cons_succ])
        refine wpAnyH_take (i := 26) (oi := ?oi61) (v := undef) ?hi61 (by kernel_rfl) (by kernel_rfl) (by kernel_rfl) (fun _ _ _ h => h) (Or.inr ⟨?wd61, rfl⟩) hHeld ?rest61
        case hi61 => (simp only [List.getElem?_toArray, List.getElem?_cons_succ, List.getElem?_cons_zero]; rfl)
        case wd61 => rfl
        (try simp only [Act.put, List.setIfInBounds_toArray, List.set_cons_zero, List.set_cons_succ])
        refine wpAnyH_take (i := 27) (oi := ?oi62) (v := undef) ?hi62 (by kernel_rfl) (by kernel_rfl) (by kernel_rfl) (fun _ _ _ h => h) (Or.inr ⟨?wd62, rfl⟩) hHeld ?rest62
        case hi62 => (simp only [List.getElem?_toArray, List.getElem?_cons_succ, List.getElem?_cons_zero]; rfl)
        case wd62 => rfl
        (try simp only [Act.put, List.setIfInBounds_toArray, List.set_cons_zero, List.set_cons_succ])
        refine wpAnyH_take (i := 28) (oi := ?oi63) (v := undef) ?hi63 (by kernel_rfl) (by kernel_rfl) (by kernel_rfl) (fun _ _ _ h => h) (Or.inr ⟨?wd63, rfl⟩) hHeld ?rest63
        case hi63 => (simp only [List.getElem?_toArray, List.getElem?_cons_succ, List.getElem?_cons_zero]; rfl)
        case wd63 => rfl
        (try simp only [Act.put, List.setIfInBounds_toArray, List.set_cons_zero, List.set_cons_succ])
        refine wpAnyH_take (i := 29) (oi := ?oi64) (v := undef) ?hi64 (by kernel_rfl) (by kernel_rfl) (by kernel_rfl) (fun _ _ _ h => h) (Or.inr ⟨?wd64, rfl⟩) hHeld ?rest64
        case hi64 => (simp only [List.getElem?_toArray, List.getElem?_cons_succ, List.getElem?_cons_zero]; rfl)
        case wd64 => rfl
        (try simp only [Act.put, List.setIfInBounds_toArray, List.set_cons_zero, List.set_cons_succ])
        refine wpAnyH_take (i := 30) (oi := ?oi65) (v := undef) ?hi65 (by kernel_rfl) (by kernel_rfl) (by kernel_rfl) (fun _ _ _ h => h) (Or.inr ⟨?wd65, rfl⟩) hHeld ?rest65
        case hi65 => (simp only [List.getElem?_toArray, List.getElem?_cons_succ, List.getElem?_cons_zero]; rfl)
        case wd65 => rfl
        (try simp only [Act.put, List.setIfInBounds_toArray, List.set_cons_zero, List.set_cons_succ])
        refine wpAnyH_take (i := 31) (oi := ?oi66) (v := undef) ?hi66 (by kernel_rfl) (by kernel_rfl) (by kernel_rfl) (fun _ _ _ h => h) (Or.inr ⟨?wd66, rfl⟩) hHeld ?rest66
        case hi66 => (simp only [List.getElem?_toArray, List.getElem?_cons_succ, List.getElem?_cons_zero]; rfl)
        case wd66 => rfl
        (try simp only [Act.put, List.setIfInBounds_toArray, List.set_cons_zero, List.set_cons_succ])
        refine wpAnyH_take (i := 32) (oi := ?oi67) (v := undef) ?hi67 (by kernel_rfl) (by kernel_rfl) (by kernel_rfl) (fun _ _ _ h => h) (Or.inr ⟨?wd67, rfl⟩) hHeld ?rest67
        case hi67 => (simp only [List.getElem?_toArray, List.getElem?_cons_succ, List.getElem?_cons_zero]; rfl)
        case wd67 => rfl
        (try simp only [Act.put, List.setIfInBounds_toArray, List.set_cons_zero, List.set_cons_succ])
        refine wpAnyH_take (i := 33) (oi := ?oi68) (v := ?v68) ?hi68 (by kernel_rfl) (by kernel_rfl) (by kernel_rfl) (fun _ _ _ h => h) (Or.inl ⟨?wd68, ?hy68⟩) hHeld ?rest68
        case hi68 => (simp only [List.getElem?_toArray, List.getElem?_cons_succ, List.getElem?_cons_zero]; rfl)
        case wd68 => rfl
        case hy68 => (intro w hSw; (try dsimp only at hSw); go_simp; try with_reducible rfl)
        (try simp only [Act.put, List.setIfInBounds_toArray, List.set_cons_zero, List.set_cons_succ])
        refine wpAnyH_done (by kernel_rfl) ?_ _
        refine NoPanic.normal ?_
        go_wp2_with fail
        go_roundw
        case rel => (refine ⟨k + 1, by omega, by go_num, HON.out, HBX.out.bel ?_, ?_⟩ <;> (repeat (first | exact hb | exact Below.refl _ _ | (refine Below.alloc ?_ (by first | (simp; done) | (simp; omega) | omega) _) | (refine Below.drew ?_) | (refine Below.setCell ?_ (by simp) _))))
        case measure => (simp [intOf]; omega)
      · have HSE : Hid (soundE k e = (isAr e.op && decide (0 ≤ e.a) && decide (e.a < (k : Int)) && decide (0 ≤ e.b) && decide (e.b < (k : Int)))) := show soundE k e = _ from by simp [soundE, kd]
        rw [kd] at c0
        generalize soundE k e = SE at HS HSE
        have hcv := run_conv1 e.op
        cases har : isAr e.op
        · rw [har] at HI HSE
          have hIs := HI
          have HBAD := hidE (HUN.out (by rw [HS.out, show SE = false from by rw [HSE.out]; rfl]; rfl))
          clear HS HSE HUN
          go_wp2_with fail
          clear c0 c1 c2 c3 c4 c5 c6 c7
          refine wp_region_noPanic ?_
          refine wp_region_held_drew (S := (fun w' => w'.cell? ⟨wr.heap.size, 0, none⟩ = some (.int .i64 2) ∧ w'.cell? ⟨wr.heap.size, 1, none⟩ = some (.int .u8 e.op) ∧ w'.cell? ⟨wr.heap.size, 2, none⟩ = some (.string e.var) ∧ w'.cell? ⟨wr.heap.size, 3, none⟩ = some (.int .i64 e.val.kind) ∧ w'.cell? ⟨wr.heap.size, 4, none⟩ = some (.int .i64 e.val.num) ∧ w'.cell? ⟨wr.heap.size, 5, none⟩ = some (.string e.val.sym) ∧ w'.cell? ⟨wr.heap.size, 6, none⟩ = some (.int .i64 e.a) ∧ w'.cell? ⟨wr.heap.size, 7, none⟩ = some (.int .i64 e.b))) (by kernel_rfl) ?_ (fun hHeld => ?_)
          · (try dsimp only)
            (go_split_ands; refine ⟨?_, ?_, ?_, ?_, ?_, ?_, ?_, ?_⟩ <;> (simp [go_sem]; done))
          refine wpAnyH_take (i := 0) (oi := ?oi69) (v := ?v69) ?hi69 (by kernel_rfl) (by kernel_rfl) (by kernel_rfl) (fun _ _ _ h => h) (Or.inl ⟨?wd69, ?hy69⟩) hHeld ?rest69
          case hi69 => (simp only [List.getElem?_toArray, List.getElem?_cons_zero]; rfl)
          case wd69 => rfl
          case hy69 => (intro w hSw; (try dsimp only at hSw); go_simp; try with_reducible rfl)
          (try simp only [Act.put, List.setIfInBounds_toArray, List.set_cons_zero, List.set_cons_succ])
          refine wpAnyH_take (i := 1) (oi := ?oi70) (v := ?v70) ?hi70 (by kernel_rfl) (by kernel_rfl) (by kernel_rfl) (fun _ _ _ h => h) (Or.inl ⟨?wd70, ?hy70⟩) hHeld ?rest70
          case hi70 => (simp only [List.getElem?_toArray, List.getElem?_cons_succ, List.getElem?_cons_zero]; rfl)
          case wd70 => rfl
          case hy70 => (intro w hSw; (try dsimp only at hSw); go_simp; try with_reducible rfl)
          (try simp only [Act.put, List.setIfInBounds_toArray, List.set_cons_zero, List.set_cons_succ])
          refine wpAnyH_take (i := 2) (oi := ?oi71) (v := ?v71) ?hi71 (by kernel_rfl) (by kernel_rfl) (by kernel_rfl) (fun _ _ _ h => h) (Or.inl ⟨?wd71, ?hy71⟩) hHeld ?rest71
          case hi71 => (simp only [List.getElem?_toArray, List.getElem?_cons_succ, List.getElem?_cons_zero]; rfl)
          case wd71 => rfl
          case hy71 => (intro w hSw; (try dsimp only at hSw); go_simp; try with_reducible rfl)
          (try simp only [Act.put, List.setIfInBounds_toArray, List.set_cons_zero, List.set_cons_succ])
          refine wpAnyH_take (i := 3) (oi := ?oi72) (v := ?v72) ?hi72 (by kernel_rfl) (by kernel_rfl) (by kernel_rfl) (fun _ _ _ h => h) (Or.inl ⟨?wd72, ?hy72⟩) hHeld ?rest72
          case hi72 => (simp only [List.getElem?_toArray, List.getElem?_cons_succ, List.getElem?_cons_zero]; rfl)
          case wd72 => rfl
          case hy72 => (intro w hSw; (try dsimp only at hSw); go_simp; try with_reducible rfl)
          (try simp only [Act.put, List.setIfInBounds_toArray, List.set_cons_zero, List.set_cons_succ])
          refine wpAnyH_take (i := 4) (oi := ?oi73) (v := ?v73) ?hi73 (by kernel_rfl) (by kernel_rfl) (by kernel_rfl) (fun _ _ _ h => h) (Or.inl ⟨?wd73, ?hy73⟩) hHeld ?rest73
          case hi73 => (simp only [List.getElem?_toArray, List.getElem?_cons_succ, List.getElem?_cons_zero]; rfl)
          case wd73 => rfl
          case hy73 => (intro w hSw; (try dsimp only at hSw); go_simp; try with_reducible rfl)
          (try simp only [Act.put, List.setIfInBounds_toArray, List.set_cons_zero, List.set_cons_succ])
          refine wpAnyH_take (i := 5) (oi := ?oi74) (v := ?v74) ?hi74 (by kernel_rfl) (by kernel_rfl) (by kernel_rfl) (fun _ _ _ h => h) (Or.inl ⟨?wd74, ?hy74⟩) hHeld ?rest74
          case hi74 => (simp only [List.getElem?_toArray, List.getElem?_cons_succ, List.getElem?_cons_zero]; rfl)
          case wd74 => rfl
          case hy74 => (intro w hSw; (try dsimp only at hSw); go_simp; try with_reducible rfl)
          (try simp only [Act.put, List.setIfInBounds_toArray, List.set_cons_zero, List.set_cons_succ])
          refine wpAnyH_ready (rs := [6, 8]) (by kernel_rfl) (by simp) ?_
          refine AllReadyH.cons (o := ?o75) ?ho75 (fun K hK => ?step75) (AllReadyH.cons (o := ?o76) ?ho76 (fun K hK => ?step76) AllReadyH.nil)
          case ho75 => (simp only [List.getElem?_toArray, List.getElem?_cons_succ, List.getElem?_cons_zero]; rfl)
          case ho76 => (simp only [List.getElem?_toArray, List.getElem?_cons_succ, List.getElem?_cons_zero]; rfl)
          case step75 =>
            go_simp
            refine hK.out _ _ ?hS77 (fun hHeld' => ?rest77)
            case hS77 => ((try dsimp only); (go_split_ands; refine ⟨?_, ?_, ?_, ?_, ?_, ?_, ?_, ?_⟩ <;> (simp [go_sem]; done)))
            clear hK K
            (try simp only [Act.put, List.setIfInBounds_toArray, List.set_cons_zero, List.set_cons_succ])
            clear hHeld
            have hHeld := hHeld'
            clear hHeld'
            refine wpAnyH_ready (rs := [7, 8]) (by kernel_rfl) (by simp) ?_
            refine AllReadyH.cons (o := ?o78) ?ho78 (fun K hK => ?step78) (AllReadyH.cons (o := ?o79) ?ho79 (fun K hK => ?step79) AllReadyH.nil)
            case ho78 => (simp only [List.getElem?_toArray, List.getElem?_cons_succ, List.getElem?_cons_zero]; rfl)
            case ho79 => (simp only [List.getElem?_toArray, List.getElem?_cons_succ, List.getElem?_cons_zero]; rfl)
            case step78 =>
              go_simp
              refine hK.out _ _ ?hS80 (fun hHeld' => ?rest80)
              case hS80 => ((try dsimp only); (go_split_ands; refine ⟨?_, ?_, ?_, ?_, ?_, ?_, ?_, ?_⟩ <;> (simp [go_sem]; done)))
              clear hK K
              (try simp only [Act.put, List.setIfInBounds_toArray, List.set_cons_zero, List.set_cons_succ])
              clear hHeld
              have hHeld := hHeld'
              clear hHeld'
              refine wpAnyH_ready (rs := [8]) (by kernel_rfl) (by simp) ?_
              refine AllReadyH.cons (o := ?o81) ?ho81 (fun K hK => ?step81) AllReadyH.nil
              case ho81 => (simp only [List.getElem?_toArray, List.getElem?_cons_succ, List.getElem?_cons_zero]; rfl)
              go_simp
              (go_at_call 136; refine (l2Ariths_any _).mono ?_; rintro e' w' ⟨rfl, rfl⟩)
              (try go_wp2_with fail)
              refine hK.out _ _ ?hS82 (fun hHeld' => ?rest82)
              case hS82 => ((try dsimp only); (go_split_ands; refine ⟨?_, ?_, ?_, ?_, ?_, ?_, ?_, ?_⟩ <;> (simp [go_sem]; done)))
              clear hK K
              (try simp only [Act.put, List.setIfInBounds_toArray, List.set_cons_zero, List.set_cons_succ])
              clear hHeld
              have hHeld := hHeld'
              clear hHeld'
              refine wpAnyH_ready (rs := [9]) (by kernel_rfl) (by simp) ?_
              refine AllReadyH.cons (o := ?o83) ?ho83 (fun K hK => ?step83) AllReadyH.nil
              case ho83 => (simp only [List.getElem?_toArray, List.getElem?_cons_succ, List.getElem?_cons_zero]; rfl)
              go_simp
              (go_at_call 135; refine (hIs.out _ _ ?_).mono ?_; (first | exact ar_new _ _ _ (by simp) | exact ar_old _ _ _ _ (by simp)); rintro e' w' ⟨rfl, rfl⟩)
              (try go_wp2_with fail)
              refine hK.out _ _ ?hS84 (fun hHeld' => ?rest84)
              case hS84 => ((try dsimp only); (go_split_ands; refine ⟨?_, ?_, ?_, ?_, ?_, ?_, ?_, ?_⟩ <;> (simp [go_sem]; done)))
              clear hK K
              (try simp only [Act.put, List.setIfInBounds_toArray, List.set_cons_zero, List.set_cons_succ])
              clear hHeld
              have hHeld := hHeld'
              clear hHeld'
              refine wpAnyH_take (i := 10) (oi := ?oi85) (v := ?v85) ?hi85 (by kernel_rfl) (by kernel_rfl) (by kernel_rfl) (fun _ _ _ h => h) (Or.inl ⟨?wd85, ?hy85⟩) hHeld ?rest85
              case hi85 => (simp only [List.getElem?_toArray, List.getElem?_cons_succ, List.getElem?_cons_zero]; rfl)
              case wd85 => rfl
              case hy85 => (intro w hSw; (try dsimp only at hSw); go_simp; try with_reducible rfl)
              (try simp only [Act.put, List.setIfInBounds_toArray, List.set_cons_zero, List.set_cons_succ])
              refine wpAnyH_take (i := 11) (oi := ?oi86) (v := ?v86) ?hi86 (by kernel_rfl) (by kernel_rfl) (by kernel_rfl) (fun _ _ _ h => h) (Or.inl ⟨?wd86, ?hy86⟩) hHeld ?rest86
              case hi86 => (simp only [List.getElem?_toArray, List.getElem?_cons_succ, List.getElem?_cons_zero]; rfl)
              case wd86 => rfl
              case hy86 => (intro w hSw; (try dsimp only at hSw); go_simp; try with_reducible rfl)
              (try simp only [Act.put, List.setIfInBounds_toArray, List.set_cons_zero, List.set_cons_succ])
              refine wpAnyH_take (i := 12) (oi := ?oi87) (v := undef) ?hi87 (by kernel_rfl) (by kernel_rfl) (by kernel_rfl) (fun _ _ _ h => h) (Or.inr ⟨?wd87, rfl⟩) hHeld ?rest87
              case hi87 => (simp only [List.getElem?_toArray, List.getElem?_cons_succ, List.getElem?_cons_zero]; rfl)
              case wd87 => rfl
              (try simp only [Act.put, List.setIfInBounds_toArray, List.set_cons_zero, List.set_cons_succ])
              refine wpAnyH_take (i := 13) (oi := ?oi88) (v := undef) ?hi88 (by kernel_rfl) (by kernel_rfl) (by kernel_rfl) (fun _ _ _ h => h) (Or.inr ⟨?wd88, rfl⟩) hHeld ?rest88
              case hi88 => (simp only [List.getElem?_toArray, List.getElem?_cons_succ, List.getElem?_cons_zero]; rfl)
              case wd88 => rfl
              (try simp only [Act.put, List.setIfInBounds_toArray, List.set_cons_zero, List.set_cons_succ])
              refine wpAnyH_take (i := 14) (oi := ?oi89) (v := undef) ?hi89 (by kernel_rfl) (by kernel_rfl) (by kernel_rfl) (fun _ _ _ h => h) (Or.inr ⟨?wd89, rfl⟩) hHeld ?rest89
              case hi89 => (simp only [List.getElem?_toArray, List.getElem?_cons_succ, List.getElem?_cons_zero]; rfl)
              case wd89 => rfl
              (try simp only [Act.put, List.setIfInBounds_toArray, List.set_cons_zero, List.set_cons_succ])
              refine wpAnyH_take (i := 15) (oi := ?oi90) (v := ?v90) ?hi90 (by kernel_rfl) (by kernel_rfl) (by kernel_rfl) (fun _ _ _ h => h) (Or.inl ⟨?wd90, ?hy90⟩) hHeld ?rest90
              case hi90 => (simp only [List.getElem?_toArray, List.getElem?_cons_succ, List.getElem?_cons_zero]; rfl)
              case wd90 => rfl
              case hy90 => (intro w hSw; (try dsimp only at hSw); go_simp; try with_reducible rfl)
              (try simp only [Act.put, List.setIfInBounds_toArray, List.set_cons_zero, List.set_cons_succ])
              refine wpAnyH_take (i := 16) (oi := ?oi91) (v := ?v91) ?hi91 (by kernel_rfl) (by kernel_rfl) (by kernel_rfl) (fun _ _ _ h => h) (Or.inl ⟨?wd91, ?hy91⟩) hHeld ?rest91
              case hi91 => (simp only [List.getElem?_toArray, List.getElem?_cons_succ, List.getElem?_cons_zero]; rfl)
              case wd91 => rfl
              case hy91 => (intro w hSw; (try dsimp only at hSw); go_simp; try with_reducible rfl)
              (try simp only [Act.put, List.setIfInBounds_toArray, List.set_cons_zero, List.set_cons_succ])
              refine wpAnyH_take (i := 17) (oi := ?oi92) (v := undef) ?hi92 (by kernel_rfl) (by kernel_rfl) (by kernel_rfl) (fun _ _ _ h => h) (Or.inr ⟨?wd92, rfl⟩) hHeld ?rest92
              case hi92 => (simp only [List.getElem?_toArray, List.getElem?_cons_succ, List.getElem?_cons_zero]; rfl)
              case wd92 => rfl
              (try simp only [Act.put, List.setIfInBounds_toArray, List.set_cons_zero, List.set_cons_succ])
              refine wpAnyH_take (i := 18) (oi := ?oi93) (v := undef) ?hi93 (by kernel_rfl) (by kernel_rfl) (by kernel_rfl) (fun _ _ _ h => h) (Or.inr ⟨?wd93, rfl⟩) hHeld ?rest93
              case hi93 => (simp only [List.getElem?_toArray, List.getElem?_cons_succ, List.getElem?_cons_zero]; rfl)
              case wd93 => rfl
              (try simp only [Act.put, List.setIfInBounds_toArray, List.set_cons_zero, List.set_cons_succ])
              refine wpAnyH_take (i := 19) (oi := ?oi94) (v := undef) ?hi94 (by kernel_rfl) (by kernel_rfl) (by kernel_rfl) (fun _ _ _ h => h) (Or.inr ⟨?wd94, rfl⟩) hHeld ?rest94
              case hi94 => (simp only [List.getElem?_toArray, List.getElem?_cons_succ, List.getElem?_cons_zero]; rfl)
              case wd94 => rfl
              (try simp only [Act.put, List.setIfInBounds_toArray, List.set_cons_zero, List.set_cons_succ])
              refine wpAnyH_take (i := 20) (oi := ?oi95) (v := undef) ?hi95 (by kernel_rfl) (by kernel_rfl) (by kernel_rfl) (fun _ _ _ h => h) (Or.inr ⟨?wd95, rfl⟩) hHeld ?rest95
              case hi95 => (simp only [List.getElem?_toArray, List.getElem?_cons_succ, List.getElem?_cons_zero]; rfl)
              case wd95 => rfl
              (try simp only [Act.put, List.setIfInBounds_toArray, List.set_cons_zero, List.set_cons_succ])
              refine wpAnyH_take (i := 21) (oi := ?oi96) (v := ?v96) ?hi96 (by kernel_rfl) (by kernel_rfl) (by kernel_rfl) (fun _ _ _ h => h) (Or.inl ⟨?wd96, ?hy96⟩) hHeld ?rest96
              case hi96 => (simp only [List.getElem?_toArray, List.getElem?_cons_succ, List.getElem?_cons_zero]; rfl)
              case wd96 => rfl
              case hy96 => (intro w hSw; (try dsimp only at hSw); go_simp; try with_reducible rfl)
              (try simp only [Act.put, List.setIfInBounds_toArray, List.set_cons_zero, List.set_cons_succ])
              refine wpAnyH_take (i := 22) (oi := ?oi97) (v := ?v97) ?hi97 (by kernel_rfl) (by kernel_rfl) (by kernel_rfl) (fun _ _ _ h => h) (Or.inl ⟨?wd97, ?hy97⟩) hHeld ?rest97
              case hi97 => (simp only [List.getElem?_toArray, List.getElem?_cons_succ, List.getElem?_cons_zero]; rfl)
              case wd97 => rfl
              case hy97 => (intro w hSw; (try dsimp only at hSw); go_simp; try with_reducible rfl)
              (try simp only [Act.put, List.setIfInBounds_toArray, List.set_cons_zero, List.set_cons_succ])
              refine wpAnyH_take (i := 23) (oi := ?oi98) (v := undef) ?hi98 (by kernel_rfl) (by kernel_rfl) (by kernel_rfl) (fun _ _ _ h => h) (Or.inr ⟨?wd98, rfl⟩) hHeld ?rest98
              case hi98 => (simp only [List.getElem?_toArray, List.getElem?_cons_succ, List.getElem?_cons_zero]; rfl)
              case wd98 => rfl
              (try simp only [Act.put, List.setIfInBounds_toArray, List.set_cons_zero, List.set_cons_succ])
              refine wpAnyH_take (i := 24) (oi := ?oi99) (v := undef) ?hi99 (by kernel_rfl) (by kernel_rfl) (by kernel_rfl) (fun _ _ _ h => h) (Or.inr ⟨?wd99, rfl⟩) hHeld ?rest99
              case hi99 => (simp only [List.getElem?_toArray, List.getElem?_cons_succ, List.getElem?_cons_zero]; rfl)
              case wd99 => rfl
              (try simp only [Act.put, List.setIfInBounds_toArray, List.set_cons_zero, List.set_cons_succ])
              refine wpAnyH_take (i := 25) (oi := ?oi100) (v := undef) ?hi100 (by kernel_rfl) (by kernel_rfl) (by kernel_rfl) (fun _ _ _ h => h) (Or.inr ⟨?wd100, rfl⟩) hHeld ?rest100
              case hi100 => (simp only [List.getElem?_toArray, List.getElem?_cons_succ, List.getElem?_cons_zero]; rfl)
              case wd100 => rfl
              (try simp only [Act.put, List.setIfInBounds_toArray, List.set_cons_zero, List.set_cons_succ])
              refine wpAnyH_take (i := 26) (oi := ?oi101) (v := ?v101) ?hi101 (by kernel_rfl) (by kernel_rfl) (by kernel_rfl) (fun _ _ _ h => h) (Or.inl ⟨?wd101, ?hy101⟩) hHeld ?rest101
              case hi101 => (simp only [List.getElem?_toArray, List.getElem?_cons_succ, List.getElem?_cons_zero]; rfl)
              case wd101 => rfl
              case hy101 => (intro w hSw; (try dsimp only at hSw); go_simp; try with_reducible rfl)
              (try simp only [Act.put, List.setIfInBounds_toArray, List.set_cons_zero, List.set_cons_succ])
              refine wpAnyH_take (i := 27) (oi := ?oi102) (v := ?v102) ?hi102 (by kernel_rfl) (by kernel_rfl) (by kernel_rfl) (fun _ _ _ h => h) (Or.inl ⟨?wd102, ?hy102⟩) hHeld ?rest102
              case hi102 => (simp only [List.getElem?_toArray, List.getElem?_cons_succ, List.getElem?_cons_zero]; rfl)
              case wd102 => rfl
              case hy102 => (intro w hSw; (try dsimp only at hSw); go_simp; try with_reducible rfl)
              (try simp only [Act.put, List.setIfInBounds_toArray, List.set_cons_zero, List.set_cons_succ])
              refine wpAnyH_take (i := 28) (oi := ?oi103) (v := undef) ?hi103 (by kernel_rfl) (by kernel_rfl) (by kernel_rfl) (fun _ _ _ h => h) (Or.inr ⟨?wd103, rfl⟩) hHeld ?rest103
              case hi103 => (simp only [List.getElem?_toArray, List.getElem?_cons_succ, List.getElem?_cons_zero]; rfl)
              case wd103 => rfl
              (try simp only [Act.put, List.setIfInBounds_toArray, List.set_cons_zero, List.set_cons_succ])
              refine wpAnyH_take (i := 29) (oi := ?oi104) (v := undef) ?hi104 (by kernel_rfl) (by kernel_rfl) (by kernel_rfl) (fun _ _ _ h => h) (Or.inr ⟨?wd104, rfl⟩) hHeld ?rest104
              case hi104 => (simp only [List.getElem?_toArray, List.getElem?_cons_succ, List.getElem?_cons_zero]; rfl)
              case wd104 => rfl
              (try simp only [Act.put, List.setIfInBounds_toArray, List.set_cons_zero, List.set_cons_succ])
              refine wpAnyH_take (i := 30) (oi := ?oi105) (v := undef) ?hi105 (by kernel_rfl) (by kernel_rfl) (by kernel_rfl) (fun _ _ _ h => h) (Or.inr ⟨?wd105, rfl⟩) hHeld ?rest105
              case hi105 => (simp only [List.getElem?_toArray, List.getElem?_cons_succ, List.getElem?_cons_zero]; rfl)
              case wd105 => rfl
              (try simp only [Act.put, List.setIfInBounds_toArray, List.set_cons_zero, List.set_cons_succ])
              refine wpAnyH_take (i := 31) (oi := ?oi106) (v := undef) ?hi106 (by kernel_rfl) (by kernel_rfl) (by kernel_rfl) (fun _ _ _ h => h) (Or.inr ⟨?wd106, rfl⟩) hHeld ?rest106
              case hi106 => (simp only [List.getElem?_toArray, List.getElem?_cons_succ, List.getElem?_cons_zero]; rfl)
              case wd106 => rfl
              (try simp only [Act.put, List.setIfInBounds_toArray, List.set_cons_zero, List.set_cons_succ])
              refine wpAnyH_take (i := 32) (oi := ?oi107) (v := ?v107) ?hi107 (by kernel_rfl) (by kernel_rfl) (by kernel_rfl) (fun _ _ _ h => h) (Or.inl ⟨?wd107, ?hy107⟩) hHeld ?rest107
              case hi107 => (simp only [List.getElem?_toArray, List.getElem?_cons_succ, List.getElem?_cons_zero]; rfl)
              case wd107 => rfl
              case hy107 => (intro w hSw; (try dsimp only at hSw); go_simp; try with_reducible rfl)
              (try simp only [Act.put, List.setIfInBounds_toArray, List.set_cons_zero, List.set_cons_succ])
              refine wpAnyH_take (i := 33) (oi := ?oi108) (v := ?v108) ?hi108 (by kernel_rfl) (by kernel_rfl) (by kernel_rfl) (fun _ _ _ h => h) (Or.inl ⟨?wd108, ?hy108⟩) hHeld ?rest108
              case hi108 => (simp only [List.getElem?_toArray, List.getElem?_cons_succ, List.getElem?_cons_zero]; rfl)
              case wd108 => rfl
              case hy108 => (intro w hSw; (try dsimp only at hSw); go_simp; try with_reducible rfl)
              (try simp only [Act.put, List.setIfInBounds_toArray, List.set_cons_zero, List.set_cons_succ])
              refine wpAnyH_done (by kernel_rfl) ?_ _
              refine NoPanic.normal ?_
              refine lift_world (wr := wr) ?_
              intro W hWW
              clear f0 f1 f2 f3 z0 z1 z2 z3 hHeld
              obtain ⟨⟨f0, f1, f2, f3⟩, ⟨z0, z1, z2, z3⟩, hltW⟩ := (HBX.out.bel hWW).facts
              go_wp2_with fail
              refine bodyPost_ret (v := evV (evBad 1)) (by simp [results, Try.results75, go_sem, f0, f1, f2, f3, evV_bad]) rfl ⟨by rw [HBAD.out], ?_⟩
              exact ((((hb.trans (hWW.mono hb.size)).setCell (by simp) _).setCell (by simp) _).setCell (by simp) _).setCell (by simp) _
            case step79 =>
              go_simp
              (go_at_call 136; refine (l2Ariths_any _).mono ?_; rintro e' w' ⟨rfl, rfl⟩)
              (try go_wp2_with fail)
              refine hK.out _ _ ?hS109 (fun hHeld' => ?rest109)
              case hS109 => ((try dsimp only); (go_split_ands; refine ⟨?_, ?_, ?_, ?_, ?_, ?_, ?_, ?_⟩ <;> (simp [go_sem]; done)))
              clear hK K
              (try simp only [Act.put, List.setIfInBounds_toArray, List.set_cons_zero, List.set_cons_succ])
              clear hHeld
              have hHeld := hHeld'
              clear hHeld'
              refine wpAnyH_ready (rs := [7]) (by kernel_rfl) (by simp) ?_
              refine AllReadyH.cons (o := ?o110) ?ho110 (fun K hK => ?step110) AllReadyH.nil
              case ho110 => (simp only [List.getElem?_toArray, List.getElem?_cons_succ, List.getElem?_cons_zero]; rfl)
              go_simp
              refine hK.out _ _ ?hS111 (fun hHeld' => ?rest111)
              case hS111 => ((try dsimp only); (go_split_ands; refine ⟨?_, ?_, ?_, ?_, ?_, ?_, ?_, ?_⟩ <;> (simp [go_sem]; done)))
              clear hK K
              (try simp only [Act.put, List.setIfInBounds_toArray, List.set_cons_zero, List.set_cons_succ])
              clear hHeld
              have hHeld := hHeld'
              clear hHeld'
              refine wpAnyH_ready (rs := [9]) (by kernel_rfl) (by simp) ?_
              refine AllReadyH.cons (o := ?o112) ?ho112 (fun K hK => ?step112) AllReadyH.nil
              case ho112 => (simp only [List.getElem?_toArray, List.getElem?_cons_succ, List.getElem?_cons_zero]; rfl)
              go_simp
              (go_at_call 135; refine (hIs.out _ _ ?_).mono ?_; (first | exact ar_new _ _ _ (by simp) | exact ar_old _ _ _ _ (by simp)); rintro e' w' ⟨rfl, rfl⟩)
              (try go_wp2_with fail)
              refine hK.out _ _ ?hS113 (fun hHeld' => ?rest113)
              case hS113 => ((try dsimp only); (go_split_ands; refine ⟨?_, ?_, ?_, ?_, ?_, ?_, ?_, ?_⟩ <;> (simp [go_sem]; done)))
              clear hK K
              (try simp only [Act.put, List.setIfInBounds_toArray, List.set_cons_zero, List.set_cons_succ])
              clear hHeld
              have hHeld := hHeld'
              clear hHeld'
              refine wpAnyH_take (i := 10) (oi := ?oi114) (v := ?v114) ?hi114 (by kernel_rfl) (by kernel_rfl) (by kernel_rfl) (fun _ _ _ h => h) (Or.inl ⟨?wd114, ?hy114⟩) hHeld ?rest114
              case hi114 => (simp only [List.getElem?_toArray, List.getElem?_cons_succ, List.getElem?_cons_zero]; rfl)
              case wd114 => rfl
              case hy114 => (intro w hSw; (try dsimp only at hSw); go_simp; try with_reducible rfl)
              (try simp only [Act.put, List.setIfInBounds_toArray, List.set_cons_zero, List.set_cons_succ])
              refine wpAnyH_take (i := 11) (oi := ?oi115) (v := ?v115) ?hi115 (by kernel_rfl) (by kernel_rfl) (by kernel_rfl) (fun _ _ _ h => h) (Or.inl ⟨?wd115, ?hy115⟩) hHeld ?rest115
              case hi115 => (simp only [List.getElem?_toArray, List.getElem?_cons_succ, List.getElem?_cons_zero]; rfl)
              case wd115 => rfl
              case hy115 => (intro w hSw; (try dsimp only at hSw); go_simp; try with_reducible rfl)
              (try simp only [Act.put, List.setIfInBounds_toArray, List.set_cons_zero, List.set_cons_succ])
              refine wpAnyH_take (i := 12) (oi := ?oi116) (v := undef) ?hi116 (by kernel_rfl) (by kernel_rfl) (by kernel_rfl) (fun _ _ _ h => h) (Or.inr ⟨?wd116, rfl⟩) hHeld ?rest116
              case hi116 => (simp only [List.getElem?_toArray, List.getElem?_cons_succ, List.getElem?_cons_zero]; rfl)
              case wd116 => rfl
              (try simp only [Act.put, List.setIfInBounds_toArray, List.set_cons_zero, List.set_cons_succ])
              refine wpAnyH_take (i := 13) (oi := ?oi117) (v := undef) ?hi117 (by kernel_rfl) (by kernel_rfl) (by kernel_rfl) (fun _ _ _ h => h) (Or.inr ⟨?wd117, rfl⟩) hHeld ?rest117
              case hi117 => (simp only [List.getElem?_toArray, List.getElem?_cons_succ, List.getElem?_cons_zero]; rfl)
              case wd117 => rfl
              (try simp only [Act.put, List.setIfInBounds_toArray, List.set_cons_zero, List.set_cons_succ])
              refine wpAnyH_take (i := 14) (oi := ?oi118) (v := undef) ?hi118 (by kernel_rfl) (by kernel_rfl) (by kernel_rfl) (fun _ _ _ h => h) (Or.inr ⟨?wd118, rfl⟩) hHeld ?rest118
              case hi118 => (simp only [List.getElem?_toArray, List.getElem?_cons_succ, List.getElem?_cons_zero]; rfl)
              case wd118 => rfl
              (try simp only [Act.put, List.setIfInBounds_toArray, List.set_cons_zero, List.set_cons_succ])
              refine wpAnyH_take (i := 15) (oi := ?oi119) (v := ?v119) ?hi119 (by kernel_rfl) (by kernel_rfl) (by kernel_rfl) (fun _ _ _ h => h) (Or.inl ⟨?wd119, ?hy119⟩) hHeld ?rest119
              case hi119 => (simp only [List.getElem?_toArray, List.getElem?_cons_succ, List.getElem?_cons_zero]; rfl)
              case wd119 => rfl
              case hy119 => (intro w hSw; (try dsimp only at hSw); go_simp; try with_reducible rfl)
              (try simp only [Act.put, List.setIfInBounds_toArray, List.set_cons_zero, List.set_cons_succ])
              refine wpAnyH_take (i := 16) (oi := ?oi120) (v := ?v120) ?hi120 (by kernel_rfl) (by kernel_rfl) (by kernel_rfl) (fun _ _ _ h => h) (Or.inl ⟨?wd120, ?hy120⟩) hHeld ?rest120
              case hi120 => (simp only [List.getElem?_toArray, List.getElem?_cons_succ, List.getElem?_cons_zero]; rfl)
              case wd120 => rfl
              case hy120 => (intro w hSw; (try dsimp only at hSw); go_simp; try with_reducible rfl)
              (try simp only [Act.put, List.setIfInBounds_toArray, List.set_cons_zero, List.set_cons_succ])
              refine wpAnyH_take (i := 17) (oi := ?oi121) (v := undef) ?hi121 (by kernel_rfl) (by kernel_rfl) (by kernel_rfl) (fun _ _ _ h => h) (Or.inr ⟨?wd121, rfl⟩) hHeld ?rest121
              case hi121 => (simp only [List.getElem?_toArray, List.getElem?_cons_succ, List.getElem?_cons_zero]; rfl)
              case wd121 => rfl
              (try simp only [Act.put, List.setIfInBounds_toArray, List.set_cons_zero, List.set_cons_succ])
              refine wpAnyH_take (i := 18) (oi := ?oi122) (v := undef) ?hi122 (by kernel_rfl) (by kernel_rfl) (by kernel_rfl) (fun _ _ _ h => h) (Or.inr ⟨?wd122, rfl⟩) hHeld ?rest122
              case hi122 => (simp only [List.getElem?_toArray, List.getElem?_cons_succ, List.getElem?_cons_zero]; rfl)
              case wd122 => rfl
              (try simp only [Act.put, List.setIfInBounds_toArray, List.set_cons_zero, List.set_cons_succ])
              refine wpAnyH_take (i := 19) (oi := ?oi123) (v := undef) ?hi123 (by kernel_rfl) (by kernel_rfl) (by kernel_rfl) (fun _ _ _ h => h) (Or.inr ⟨?wd123, rfl⟩) hHeld ?rest123
              case hi123 => (simp only [List.getElem?_toArray, List.getElem?_cons_succ, List.getElem?_cons_zero]; rfl)
              case wd123 => rfl
              (try simp only [Act.put, List.setIfInBounds_toArray, List.set_cons_zero, List.set_cons_succ])
              refine wpAnyH_take (i := 20) (oi := ?oi124) (v := undef) ?hi124 (by kernel_rfl) (by kernel_rfl) (by kernel_rfl) (fun _ _ _ h => h) (Or.inr ⟨?wd124, rfl⟩) hHeld ?rest124
              case hi124 => (simp only [List.getElem?_toArray, List.getElem?_cons_succ, List.getElem?_cons_zero]; rfl)
              case wd124 => rfl
              (try simp only [Act.put, List.setIfInBounds_toArray, List.set_cons_zero, List.set_cons_succ])
              refine wpAnyH_take (i := 21) (oi := ?oi125) (v := ?v125) ?hi125 (by kernel_rfl) (by kernel_rfl) (by kernel_rfl) (fun _ _ _ h => h) (Or.inl ⟨?wd125, ?hy125⟩) hHeld ?rest125
              case hi125 => (simp only [List.getElem?_toArray, List.getElem?_cons_succ, List.getElem?_cons_zero]; rfl)
              case wd125 => rfl
              case hy125 => (intro w hSw; (try dsimp only at hSw); go_simp; try with_reducible rfl)
              (try simp only [Act.put, List.setIfInBounds_toArray, List.set_cons_zero, List.set_cons_succ])
              refine wpAnyH_take (i := 22) (oi := ?oi126) (v := ?v126) ?hi126 (by kernel_rfl) (by kernel_rfl) (by kernel_rfl) (fun _ _ _ h => h) (Or.inl ⟨?wd126, ?hy126⟩) hHeld ?rest126
              case hi126 => (simp only [List.getElem?_toArray, List.getElem?_cons_succ, List.getElem?_cons_zero]; rfl)
              case wd126 => rfl
              case hy126 => (intro w hSw; (try dsimp only at hSw); go_simp; try with_reducible rfl)
              (try simp only [Act.put, List.setIfInBounds_toArray, List.set_cons_zero, List.set_cons_succ])
              refine wpAnyH_take (i := 23) (oi := ?oi127) (v := undef) ?hi127 (by kernel_rfl) (by kernel_rfl) (by kernel_rfl) (fun _ _ _ h => h) (Or.inr ⟨?wd127, rfl⟩) hHeld ?rest127
              case hi127 => (simp only [List.getElem?_toArray, List.getElem?_cons_succ, List.getElem?_cons_zero]; rfl)
              case wd127 => rfl
              (try simp only [Act.put, List.setIfInBounds_toArray, List.set_cons_zero, List.set_cons_succ])
              refine wpAnyH_take (i := 24) (oi := ?oi128) (v := undef) ?hi128 (by kernel_rfl) (by kernel_rfl) (by kernel_rfl) (fun _ _ _ h => h) (Or.inr ⟨?wd128, rfl⟩) hHeld ?rest128
              case hi128 => (simp only [List.getElem?_toArray, List.getElem?_cons_succ, List.getElem?_cons_zero]; rfl)
              case wd128 => rfl
              (try simp only [Act.put, List.setIfInBounds_toArray, List.set_cons_zero, List.set_cons_succ])
              refine wpAnyH_take (i := 25) (oi := ?oi129) (v := undef) ?hi129 (by kernel_rfl) (by kernel_rfl) (by kernel_rfl) (fun _ _ _ h => h) (Or.inr ⟨?wd129, rfl⟩) hHeld ?rest129
              case hi129 => (simp only [List.getElem?_toArray, List.getElem?_cons_succ, List.getElem?_cons_zero]; rfl)
              case wd129 => rfl
              (try simp only [Act.put, List.setIfInBounds_toArray, List.set_cons_zero, List.set_cons_succ])
              refine wpAnyH_take (i := 26) (oi := ?oi130) (v := ?v130) ?hi130 (by kernel_rfl) (by kernel_rfl) (by kernel_rfl) (fun _ _ _ h => h) (Or.inl ⟨?wd130, ?hy130⟩) hHeld ?rest130
              case hi130 => (simp only [List.getElem?_toArray, List.getElem?_cons_succ, List.getElem?_cons_zero]; rfl)
              case wd130 => rfl
              case hy130 => (intro w hSw; (try dsimp only at hSw); go_simp; try with_reducible rfl)
              (try simp only [Act.put, List.setIfInBounds_toArray, List.set_cons_zero, List.set_cons_succ])
              refine wpAnyH_take (i := 27) (oi := ?oi131) (v := ?v131) ?hi131 (by kernel_rfl) (by kernel_rfl) (by kernel_rfl) (fun _ _ _ h => h) (Or.inl ⟨?wd131, ?hy131⟩) hHeld ?rest131
              case hi131 => (simp only [List.getElem?_toArray, List.getElem?_cons_succ, List.getElem?_cons_zero]; rfl)
              case wd131 => rfl
              case hy131 => (intro w hSw; (try dsimp only at hSw); go_simp; try with_reducible rfl)
              (try simp only [Act.put, List.setIfInBounds_toArray, List.set_cons_zero, List.set_cons_succ])
              refine wpAnyH_take (i := 28) (oi := ?oi132) (v := undef) ?hi132 (by kernel_rfl) (by kernel_rfl) (by kernel_rfl) (fun _ _ _ h => h) (Or.inr ⟨?wd132, rfl⟩) hHeld ?rest132
              case hi132 => (simp only [List.getElem?_toArray, List.getElem?_cons_succ, List.getElem?_cons_zero]; rfl)
              case wd132 => rfl
              (try simp only [Act.put, List.setIfInBounds_toArray, List.set_cons_zero, List.set_cons_succ])
              refine wpAnyH_take (i := 29) (oi := ?oi133) (v := undef) ?hi133 (by kernel_rfl) (by kernel_rfl) (by kernel_rfl) (fun _ _ _ h => h) (Or.inr ⟨?wd133, rfl⟩) hHeld ?rest133
              case hi133 => (simp only [List.getElem?_toArray, List.getElem?_cons_succ, List.getElem?_cons_zero]; rfl)
              case wd133 => rfl
              (try simp only [Act.put, List.setIfInBounds_toArray, List.set_cons_zero, List.set_cons_succ])
              refine wpAnyH_take (i := 30) (oi := ?oi134) (v := undef) ?hi134 (by kernel_rfl) (by kernel_rfl) (by kernel_rfl) (fun _ _ _ h => h) (Or.inr ⟨?wd134, rfl⟩) hHeld ?rest134
              case hi134 => (simp only [List.getElem?_toArray, List.getElem?_cons_succ, List.getElem?_cons_zero]; rfl)
              case wd134 => rfl
              (try simp only [Act.put, List.setIfInBounds_toArray, List.set_cons_zero, List.set_cons_succ])
              refine wpAnyH_take (i := 31) (oi := ?oi135) (v := undef) ?hi135 (by kernel_rfl) (by kernel_rfl) (by kernel_rfl) (fun _ _ _ h => h) (Or.inr ⟨?wd135, rfl⟩) hHeld ?rest135
              case hi135 => (simp only [List.getElem?_toArray, List.getElem?_cons_succ, List.getElem?_cons_zero]; rfl)
              case wd135 => rfl
              (try simp only [Act.put, List.setIfInBounds_toArray, List.set_cons_zero, List.set_cons_succ])
              refine wpAnyH_take (i := 32) (oi := ?oi136) (v := ?v136) ?hi136 (by kernel_rfl) (by kernel_rfl) (by kernel_rfl) (fun _ _ _ h => h) (Or.inl ⟨?wd136, ?hy136⟩) hHeld ?rest136
              case hi136 => (simp only [List.getElem?_toArray, List.getElem?_cons_succ, List.getElem?_cons_zero]; rfl)
              case wd136 => rfl
              case hy136 => (intro w hSw; (try dsimp only at hSw); go_simp; try with_reducible rfl)
              (try simp only [Act.put, List.setIfInBounds_toArray, List.set_cons_zero, List.set_cons_succ])
              refine wpAnyH_take (i := 33) (oi := ?oi137) (v := ?v137) ?hi137 (by kernel_rfl) (by kernel_rfl) (by kernel_rfl) (fun _ _ _ h => h) (Or.inl ⟨?wd137, ?hy137⟩) hHeld ?rest137
              case hi137 => (simp only [List.getElem?_toArray, List.getElem?_cons_succ, List.getElem?_cons_zero]; rfl)
              case wd137 => rfl
              case hy137 => (intro w hSw; (try dsimp only at hSw); go_simp; try with_reducible rfl)
              (try simp only [Act.put, List.setIfInBounds_toArray, List.set_cons_zero, List.set_cons_succ])
              refine wpAnyH_done (by kernel_rfl) ?_ _
              refine NoPanic.normal ?_
              refine lift_world (wr := wr) ?_
              intro W hWW
              clear f0 f1 f2 f3 z0 z1 z2 z3 hHeld
              obtain ⟨⟨f0, f1, f2, f3⟩, ⟨z0, z1, z2, z3⟩, hltW⟩ := (HBX.out.bel hWW).facts
              go_wp2_with fail
              refine bodyPost_ret (v := evV (evBad 1)) (by simp [results, Try.results75, go_sem, f0, f1, f2, f3, evV_bad]) rfl ⟨by rw [HBAD.out], ?_⟩
              exact ((((hb.trans (hWW.mono hb.size)).setCell (by simp) _).setCell (by simp) _).setCell (by simp) _).setCell (by simp) _
          case step76 =>
            go_simp
            (go_at_call 136; refine (l2Ariths_any _).mono ?_; rintro e' w' ⟨rfl, rfl⟩)
            (try go_wp2_with fail)
            refine hK.out _ _ ?hS138 (fun hHeld' => ?rest138)
            case hS138 => ((try dsimp only); (go_split_ands; refine ⟨?_, ?_, ?_, ?_, ?_, ?_, ?_, ?_⟩ <;> (simp [go_sem]; done)))
            clear hK K
            (try simp only [Act.put, List.setIfInBounds_toArray, List.set_cons_zero, List.set_cons_succ])
            clear hHeld
            have hHeld := hHeld'
            clear hHeld'
            refine wpAnyH_ready (rs := [6]) (by kernel_rfl) (by simp) ?_
            refine AllReadyH.cons (o := ?o139) ?ho139 (fun K hK => ?step139) AllReadyH.nil
            case ho139 => (simp only [List.getElem?_toArray, List.getElem?_cons_succ, List.getElem?_cons_zero]; rfl)
            go_simp
            refine hK.out _ _ ?hS140 (fun hHeld' => ?rest140)
            case hS140 => ((try dsimp only); (go_split_ands; refine ⟨?_, ?_, ?_, ?_, ?_, ?_, ?_, ?_⟩ <;> (simp [go_sem]; done)))
            clear hK K
            (try simp only [Act.put, List.setIfInBounds_toArray, List.set_cons_zero, List.set_cons_succ])
            clear hHeld
            have hHeld := hHeld'
            clear hHeld'
            refine wpAnyH_ready (rs := [7]) (by kernel_rfl) (by simp) ?_
            refine AllReadyH.cons (o := ?o141) ?ho141 (fun K hK => ?step141) AllReadyH.nil
            case ho141 => (simp only [List.getElem?_toArray, List.getElem?_cons_succ, List.getElem?_cons_zero]; rfl)
            go_simp
            refine hK.out _ _ ?hS142 (fun hHeld' => ?rest142)
            case hS142 => ((try dsimp only); (go_split_ands; refine ⟨?_, ?_, ?_, ?_, ?_, ?_, ?_, ?_⟩ <;> (simp [go_sem]; done)))
            clear hK K
            (try simp only [Act.put, List.setIfInBounds_toArray, List.set_cons_zero, List.set_cons_succ])
            clear hHeld
            have hHeld := hHeld'
            clear hHeld'
            refine wpAnyH_ready (rs := [9]) (by kernel_rfl) (by simp) ?_
            refine AllReadyH.cons (o := ?o143) ?ho143 (fun K hK => ?step143) AllReadyH.nil
            case ho143 => (simp only [List.getElem?_toArray, List.getElem?_cons_succ, List.getElem?_cons_zero]; rfl)
            go_simp
            (go_at_call 135; refine (hIs.out _ _ ?_).mono ?_; (first | exact ar_new _ _ _ (by simp) | exact ar_old _ _ _ _ (by simp)); rintro e' w' ⟨rfl, rfl⟩)
            (try go_wp2_with fail)
            refine hK.out _ _ ?hS144 (fun hHeld' => ?rest144)
            case hS144 => ((try dsimp only); (go_split_ands; refine ⟨?_, ?_, ?_, ?_, ?_, ?_, ?_, ?_⟩ <;> (simp [go_sem]; done)))
            clear hK K
            (try simp only [Act.put, List.setIfInBounds_toArray, List.set_cons_zero, List.set_cons_succ])
            clear hHeld
            have hHeld := hHeld'
            clear hHeld'
            refine wpAnyH_take (i := 10) (oi := ?oi145) (v := ?v145) ?hi145 (by kernel_rfl) (by kernel_rfl) (by kernel_rfl) (fun _ _ _ h => h) (Or.inl ⟨?wd145, ?hy145⟩) hHeld ?rest145
            case hi145 => (simp only [List.getElem?_toArray, List.getElem?_cons_succ, List.getElem?_cons_zero]; rfl)
            case wd145 => rfl
            case hy145 => (intro w hSw; (try dsimp only at hSw); go_simp; try with_reducible rfl)
            (try simp only [Act.put, List.setIfInBounds_toArray, List.set_cons_zero, List.set_cons_succ])
            refine wpAnyH_take (i := 11) (oi := ?oi146) (v := ?v146) ?hi146 (by kernel_rfl) (by kernel_rfl) (by kernel_rfl) (fun _ _ _ h => h) (Or.inl ⟨?wd146, ?hy146⟩) hHeld ?rest146
            case hi146 => (simp only [List.getElem?_toArray, List.getElem?_cons_succ, List.getElem?_cons_zero]; rfl)
            case wd146 => rfl
            case hy146 => (intro w hSw; (try dsimp only at hSw); go_simp; try with_reducible rfl)
            (try simp only [Act.put, List.setIfInBounds_toArray, List.set_cons_zero, List.set_cons_succ])
            refine wpAnyH_take (i := 12) (oi := ?oi147) (v := undef) ?hi147 (by kernel_rfl) (by kernel_rfl) (by kernel_rfl) (fun _ _ _ h => h) (Or.inr ⟨?wd147, rfl⟩) hHeld ?rest147
            case hi147 => (simp only [List.getElem?_toArray, List.getElem?_cons_succ, List.getElem?_cons_zero]; rfl)
            case wd147 => rfl
            (try simp only [Act.put, List.setIfInBounds_toArray, List.set_cons_zero, List.set_cons_succ])
            refine wpAnyH_take (i := 13) (oi := ?oi148) (v := undef) ?hi148 (by kernel_rfl) (by kernel_rfl) (by kernel_rfl) (fun _ _ _ h => h) (Or.inr ⟨?wd148, rfl⟩) hHeld ?rest148
            case hi148 => (simp only [List.getElem?_toArray, List.getElem?_cons_succ, List.getElem?_cons_zero]; rfl)
            case wd148 => rfl
            (try simp only [Act.put, List.setIfInBounds_toArray, List.set_cons_zero, List.set_cons_succ])
            refine wpAnyH_take (i := 14) (oi := ?oi149) (v := undef) ?hi149 (by kernel_rfl) (by kernel_rfl) (by kernel_rfl) (fun _ _ _ h => h) (Or.inr ⟨?wd149, rfl⟩) hHeld ?rest149
            case hi149 => (simp only [List.getElem?_toArray, List.getElem?_cons_succ, List.getElem?_cons_zero]; rfl)
            case wd149 => rfl
            (try simp only [Act.put, List.setIfInBounds_toArray, List.set_cons_zero, List.set_cons_succ])
            refine wpAnyH_take (i := 15) (oi := ?oi150) (v := ?v150) ?hi150 (by kernel_rfl) (by kernel_rfl) (by kernel_rfl) (fun _ _ _ h => h) (Or.inl ⟨?wd150, ?hy150⟩) hHeld ?rest150
            case hi150 => (simp only [List.getElem?_toArray, List.getElem?_cons_succ, List.getElem?_cons_zero]; rfl)
            case wd150 => rfl
            case hy150 => (intro w hSw; (try dsimp only at hSw); go_simp; try with_reducible rfl)
            (try simp only [Act.put, List.setIfInBounds_toArray, List.set_cons_zero, List.set_cons_succ])
            refine wpAnyH_take (i := 16) (oi := ?oi151) (v := ?v151) ?hi151 (by kernel_rfl) (by kernel_rfl) (by kernel_rfl) (fun _ _ _ h => h) (Or.inl ⟨?wd151, ?hy151⟩) hHeld ?rest151
            case hi151 => (simp only [List.getElem?_toArray, List.getElem?_cons_succ, List.getElem?_cons_zero]; rfl)
            case wd151 => rfl
            case hy151 => (intro w hSw; (try dsimp only at hSw); go_simp; try with_reducible rfl)
            (try simp only [Act.put, List.setIfInBounds_toArray, List.set_cons_zero, List.set_cons_succ])
            refine wpAnyH_take (i := 17) (oi := ?oi152) (v := undef) ?hi152 (by kernel_rfl) (by kernel_rfl) (by kernel_rfl) (fun _ _ _ h => h) (Or.inr ⟨?wd152, rfl⟩) hHeld ?rest152
            case hi152 => (simp only [List.getElem?_toArray, List.getElem?_cons_succ, List.getElem?_cons_zero]; rfl)
            case wd152 => rfl
            (try simp only [Act.put, List.setIfInBounds_toArray, List.set_cons_zero, List.set_cons_succ])
            refine wpAnyH_take (i := 18) (oi := ?oi153) (v := undef) ?hi153 (by kernel_rfl) (by kernel_rfl) (by kernel_rfl) (fun _ _ _ h => h) (Or.inr ⟨?wd153, rfl⟩) hHeld ?rest153
            case hi153 => (simp only [List.getElem?_toArray, List.getElem?_cons_succ, List.getElem?_cons_zero]; rfl)
            case wd153 => rfl
            (try simp only [Act.put, List.setIfInBounds_toArray, List.set_cons_zero, List.set_cons_succ])
            refine wpAnyH_take (i := 19) (oi := ?oi154) (v := undef) ?hi154 (by kernel_rfl) (by kernel_rfl) (by kernel_rfl) (fun _ _ _ h => h) (Or.inr ⟨?wd154, rfl⟩) hHeld ?rest154
            case hi154 => (simp only [List.getElem?_toArray, List.getElem?_cons_succ, List.getElem?_cons_zero]; rfl)
            case wd154 => rfl
            (try simp only [Act.put, List.setIfInBounds_toArray, List.set_cons_zero, List.set_cons_succ])
            refine wpAnyH_take (i := 20) (oi := ?oi155) (v := undef) ?hi155 (by kernel_rfl) (by kernel_rfl) (by kernel_rfl) (fun _ _ _ h => h) (Or.inr ⟨?wd155, rfl⟩) hHeld ?rest155
            case hi155 => (simp only [List.getElem?_toArray, List.getElem?_cons_succ, List.getElem?_cons_zero]; rfl)
            case wd155 => rfl
            (try simp only [Act.put, List.setIfInBounds_toArray, List.set_cons_zero, List.set_cons_succ])
            refine wpAnyH_take (i := 21) (oi := ?oi156) (v := ?v156) ?hi156 (by kernel_rfl) (by kernel_rfl) (by kernel_rfl) (fun _ _ _ h => h) (Or.inl ⟨?wd156, ?hy156⟩) hHeld ?rest156
            case hi156 => (simp only [List.getElem?_toArray, List.getElem?_cons_succ, List.getElem?_cons_zero]; rfl)
            case wd156 => rfl
            case hy156 => (intro w hSw; (try dsimp only at hSw); go_simp; try with_reducible rfl)
            (try simp only [Act.put, List.setIfInBounds_toArray, List.set_cons_zero, List.set_cons_succ])
            refine wpAnyH_take (i := 22) (oi := ?oi157) (v := ?v157) ?hi157 (by kernel_rfl) (by kernel_rfl) (by kernel_rfl) (fun _ _ _ h => h) (Or.inl ⟨?wd157, ?hy157⟩) hHeld ?rest157
            case hi157 => (simp only [List.getElem?_toArray, List.getElem?_cons_succ, List.getElem?_cons_zero]; rfl)
            case wd157 => rfl
            case hy157 => (intro w hSw; (try dsimp only at hSw); go_simp; try with_reducible rfl)
            (try simp only [Act.put, List.setIfInBounds_toArray, List.set_cons_zero, List.set_cons_succ])
            refine wpAnyH_take (i := 23) (oi := ?oi158) (v := undef) ?hi158 (by kernel_rfl) (by kernel_rfl) (by kernel_rfl) (fun _ _ _ h => h) (Or.inr ⟨?wd158, rfl⟩) hHeld ?rest158
            case hi158 => (simp only [List.getElem?_toArray, List.getElem?_cons_succ, List.getElem?_cons_zero]; rfl)
            case wd158 => rfl
            (try simp only [Act.put, List.setIfInBounds_toArray, List.set_cons_zero, List.set_cons_succ])
            refine wpAnyH_take (i := 24) (oi := ?oi159) (v := undef) ?hi159 (by kernel_rfl) (by kernel_rfl) (by kernel_rfl) (fun _ _ _ h => h) (Or.inr ⟨?wd159, rfl⟩) hHeld ?rest159
            case hi159 => (simp only [List.getElem?_toArray, List.getElem?_cons_succ, List.getElem?_cons_zero]; rfl)
            case wd159 => rfl
            (try simp only [Act.put, List.setIfInBounds_toArray, List.set_cons_zero, List.set_cons_succ])
            refine wpAnyH_take (i := 25) (oi := ?oi160) (v := undef) ?hi160 (by kernel_rfl) (by kernel_rfl) (by kernel_rfl) (fun _ _ _ h => h) (Or.inr ⟨?wd160, rfl⟩) hHeld ?rest160
            case hi160 => (simp only [List.getElem?_toArray, List.getElem?_cons_succ, List.getElem?_cons_zero]; rfl)
            case wd160 => rfl
            (try simp only [Act.put, List.setIfInBounds_toArray, List.set_cons_zero, List.set_cons_succ])
            refine wpAnyH_take (i := 26) (oi := ?oi161) (v := ?v161) ?hi161 (by kernel_rfl) (by kernel_rfl) (by kernel_rfl) (fun _ _ _ h => h) (Or.inl ⟨?wd161, ?hy161⟩) hHeld ?rest161
            case hi161 => (simp only [List.getElem?_toArray, List.getElem?_cons_succ, List.getElem?_cons_zero]; rfl)
            case wd161 => rfl
            case hy161 => (intro w hSw; (try dsimp only at hSw); go_simp; try with_reducible rfl)
            (try simp only [Act.put, List.setIfInBounds_toArray, List.set_cons_zero, List.set_cons_succ])
            refine wpAnyH_take (i := 27) (oi := ?oi162) (v := ?v162) ?hi162 (by kernel_rfl) (by kernel_rfl) (by kernel_rfl) (fun _ _ _ h => h) (Or.inl ⟨?wd162, ?hy162⟩) hHeld ?rest162
            case hi162 => (simp only [List.getElem?_toArray, List.getElem?_cons_succ, List.getElem?_cons_zero]; rfl)
            case wd162 => rfl
            case hy162 => (intro w hSw; (try dsimp only at hSw); go_simp; try with_reducible rfl)
            (try simp only [Act.put, List.setIfInBounds_toArray, List.set_cons_zero, List.set_cons_succ])
            refine wpAnyH_take (i := 28) (oi := ?oi163) (v := undef) ?hi163 (by kernel_rfl) (by kernel_rfl) (by kernel_rfl) (fun _ _ _ h => h) (Or.inr ⟨?wd163, rfl⟩) hHeld ?rest163
            case hi163 => (simp only [List.getElem?_toArray, List.getElem?_cons_succ, List.getElem?_cons_zero]; rfl)
            case wd163 => rfl
            (try simp only [Act.put, List.setIfInBounds_toArray, List.set_cons_zero, List.set_cons_succ])
            refine wpAnyH_take (i := 29) (oi := ?oi164) (v := undef) ?hi164 (by kernel_rfl) (by kernel_rfl) (by kernel_rfl) (fun _ _ _ h => h) (Or.inr ⟨?wd164, rfl⟩) hHeld ?rest164
            case hi164 => (simp only [List.getElem?_toArray, List.getElem?_cons_succ, List.getElem?_cons_zero]; rfl)
            case wd164 => rfl
            (try simp only [Act.put, List.setIfInBounds_toArray, List.set_cons_zero, List.set_cons_succ])
            refine wpAnyH_take (i := 30) (oi := ?oi165) (v := undef) ?hi165 (by kernel_rfl) (by kernel_rfl) (by kernel_rfl) (fun _ _ _ h => h) (Or.inr ⟨?wd165, rfl⟩) hHeld ?rest165
            case hi165 => (simp only [List.getElem?_toArray, List.getElem?_cons_succ, List.getElem?_cons_zero]; rfl)
            case wd165 => rfl
            (try simp only [Act.put, List.setIfInBounds_toArray, List.set_cons_zero, List.set_cons_succ])
            refine wpAnyH_take (i := 31) (oi := ?oi166) (v := undef) ?hi166 (by kernel_rfl) (by kernel_rfl) (by kernel_rfl) (fun _ _ _ h => h) (Or.inr ⟨?wd166, rfl⟩) hHeld ?rest166
            case hi166 => (simp only [List.getElem?_toArray, List.getElem?_cons_succ, List.getElem?_cons_zero]; rfl)
            case wd166 => rfl
            (try simp only [Act.put, List.setIfInBounds_toArray, List.set_cons_zero, List.set_cons_succ])
            refine wpAnyH_take (i := 32) (oi := ?oi167) (v := ?v167) ?hi167 (by kernel_rfl) (by kernel_rfl) (by kernel_rfl) (fun _ _ _ h => h) (Or.inl ⟨?wd167, ?hy167⟩) hHeld ?rest167
            case hi167 => (simp only [List.getElem?_toArray, List.getElem?_cons_succ, List.getElem?_cons_zero]; rfl)
            case wd167 => rfl
            case hy167 => (intro w hSw; (try dsimp only at hSw); go_simp; try with_reducible rfl)
            (try simp only [Act.put, List.setIfInBounds_toArray, List.set_cons_zero, List.set_cons_succ])
            refine wpAnyH_take (i := 33) (oi := ?oi168) (v := ?v168) ?hi168 (by kernel_rfl) (by kernel_rfl) (by kernel_rfl) (fun _ _ _ h => h) (Or.inl ⟨?wd168, ?hy168⟩) hHeld ?rest168
            case hi168 => (simp only [List.getElem?_toArray, List.getElem?_cons_succ, List.getElem?_cons_zero]; rfl)
            case wd168 => rfl
            case hy168 => (intro w hSw; (try dsimp only at hSw); go_simp; try with_reducible rfl)
            (try simp only [Act.put, List.setIfInBounds_toArray, List.set_cons_zero, List.set_cons_succ])
            refine wpAnyH_done (by kernel_rfl) ?_ _
            refine NoPanic.normal ?_
            refine lift_world (wr := wr) ?_
            intro W hWW
            clear f0 f1 f2 f3 z0 z1 z2 z3 hHeld
            obtain ⟨⟨f0, f1, f2, f3⟩, ⟨z0, z1, z2, z3⟩, hltW⟩ := (HBX.out.bel hWW).facts
            go_wp2_with fail
            refine bodyPost_ret (v := evV (evBad 1)) (by simp [results, Try.results75, go_sem, f0, f1, f2, f3, evV_bad]) rfl ⟨by rw [HBAD.out], ?_⟩
            exact ((((hb.trans (hWW.mono hb.size)).setCell (by simp) _).setCell (by simp) _).setCell (by simp) _).setCell (by simp) _
        · rw [har] at HI HSE
          have hIs := HI
          have HB0 : Hid (e.a < 0 → evalX es bs i = evBad 1) := show e.a < 0 → evalX es bs i = evBad 1 from fun h => HUN.out (by rw [HS.out, show SE = false from by rw [HSE.out]; simp [show ¬ (0 ≤ e.a) by omega]]; rfl)
          have HB1 : Hid ((k : Int) ≤ e.a → evalX es bs i = evBad 1) := show (k : Int) ≤ e.a → evalX es bs i = evBad 1 from fun h => HUN.out (by rw [HS.out, show SE = false from by rw [HSE.out]; simp [show ¬ (e.a < (k : Int)) by omega]]; rfl)
          have HB2 : Hid (e.b < 0 → evalX es bs i = evBad 1) := show e.b < 0 → evalX es bs i = evBad 1 from fun h => HUN.out (by rw [HS.out, show SE = false from by rw [HSE.out]; simp [show ¬ (0 ≤ e.b) by omega]]; rfl)
          have HB3 : Hid ((k : Int) ≤ e.b → evalX es bs i = evBad 1) := show (k : Int) ≤ e.b → evalX es bs i = evBad 1 from fun h => HUN.out (by rw [HS.out, show SE = false from by rw [HSE.out]; simp [show ¬ (e.b < (k : Int)) by omega]]; rfl)
          have HOK : Hid (¬ e.a < 0 → ¬ (k : Int) ≤ e.a → ¬ e.b < 0 → ¬ (k : Int) ≤ e.b → soundGo T 0 = soundGo (T.drop (k + 1)) (k + 1)) := show ¬ e.a < 0 → ¬ (k : Int) ≤ e.a → ¬ e.b < 0 → ¬ (k : Int) ≤ e.b → soundGo T 0 = soundGo (T.drop (k + 1)) (k + 1) from fun h1 h2 h3 h4 => by rw [HS.out, show SE = true from by rw [HSE.out]; simp [show 0 ≤ e.a by omega, show 0 ≤ e.b by omega, show e.a < (k : Int) by omega, show e.b < (k : Int) by omega]]; rfl
          clear HS HSE HUN
          go_wp2_with fail
          clear c0 c1 c2 c3 c4 c5 c6 c7
          refine wp_region_noPanic ?_
          refine wp_region_held_drew (S := (fun w' => w'.cell? ⟨wr.heap.size, 0, none⟩ = some (.int .i64 2) ∧ w'.cell? ⟨wr.heap.size, 1, none⟩ = some (.int .u8 e.op) ∧ w'.cell? ⟨wr.heap.size, 2, none⟩ = some (.string e.var) ∧ w'.cell? ⟨wr.heap.size, 3, none⟩ = some (.int .i64 e.val.kind) ∧ w'.cell? ⟨wr.heap.size, 4, none⟩ = some (.int .i64 e.val.num) ∧ w'.cell? ⟨wr.heap.size, 5, none⟩ = some (.string e.val.sym) ∧ w'.cell? ⟨wr.heap.size, 6, none⟩ = some (.int .i64 e.a) ∧ w'.cell? ⟨wr.heap.size, 7, none⟩ = some (.int .i64 e.b))) (by kernel_rfl) ?_ (fun hHeld => ?_)
          · (try dsimp only)
            (go_split_ands; refine ⟨?_, ?_, ?_, ?_, ?_, ?_, ?_, ?_⟩ <;> (simp [go_sem]; done))
          refine wpAnyH_take (i := 0) (oi := ?oi169) (v := ?v169) ?hi169 (by kernel_rfl) (by kernel_rfl) (by kernel_rfl) (fun _ _ _ h => h) (Or.inl ⟨?wd169, ?hy169⟩) hHeld ?rest169
          case hi169 => (simp only [List.getElem?_toArray, List.getElem?_cons_zero]; rfl)
          case wd169 => rfl
          case hy169 => (intro w hSw; (try dsimp only at hSw); go_simp; try with_reducible rfl)
          (try simp only [Act.put, List.setIfInBounds_toArray, List.set_cons_zero, List.set_cons_succ])
          refine wpAnyH_take (i := 1) (oi := ?oi170) (v := ?v170) ?hi170 (by kernel_rfl) (by kernel_rfl) (by kernel_rfl) (fun _ _ _ h => h) (Or.inl ⟨?wd170, ?hy170⟩) hHeld ?rest170
          case hi170 => (simp only [List.getElem?_toArray, List.getElem?_cons_succ, List.getElem?_cons_zero]; rfl)
          case wd170 => rfl
          case hy170 => (intro w hSw; (try dsimp only at hSw); go_simp; try with_reducible rfl)
          (try simp only [Act.put, List.setIfInBounds_toArray, List.set_cons_zero, List.set_cons_succ])
          refine wpAnyH_take (i := 2) (oi := ?oi171) (v := ?v171) ?hi171 (by kernel_rfl) (by kernel_rfl) (by kernel_rfl) (fun _ _ _ h => h) (Or.inl ⟨?wd171, ?hy171⟩) hHeld ?rest171
          case hi171 => (simp only [List.getElem?_toArray, List.getElem?_cons_succ, List.getElem?_cons_zero]; rfl)
          case wd171 => rfl
          case hy171 => (intro w hSw; (try dsimp only at hSw); go_simp; try with_reducible rfl)
          (try simp only [Act.put, List.setIfInBounds_toArray, List.set_cons_zero, List.set_cons_succ])
          refine wpAnyH_take (i := 3) (oi := ?oi172) (v := ?v172) ?hi172 (by kernel_rfl) (by kernel_rfl) (by kernel_rfl) (fun _ _ _ h => h) (Or.inl ⟨?wd172, ?hy172⟩) hHeld ?rest172
          case hi172 => (simp only [List.getElem?_toArray, List.getElem?_cons_succ, List.getElem?_cons_zero]; rfl)
          case wd172 => rfl
          case hy172 => (intro w hSw; (try dsimp only at hSw); go_simp; try with_reducible rfl)
          (try simp only [Act.put, List.setIfInBounds_toArray, List.set_cons_zero, List.set_cons_succ])
          refine wpAnyH_take (i := 4) (oi := ?oi173) (v := ?v173) ?hi173 (by kernel_rfl) (by kernel_rfl) (by kernel_rfl) (fun _ _ _ h => h) (Or.inl ⟨?wd173, ?hy173⟩) hHeld ?rest173
          case hi173 => (simp only [List.getElem?_toArray, List.getElem?_cons_succ, List.getElem?_cons_zero]; rfl)
          case wd173 => rfl
          case hy173 => (intro w hSw; (try dsimp only at hSw); go_simp; try with_reducible rfl)
          (try simp only [Act.put, List.setIfInBounds_toArray, List.set_cons_zero, List.set_cons_succ])
          refine wpAnyH_take (i := 5) (oi := ?oi174) (v := ?v174) ?hi174 (by kernel_rfl) (by kernel_rfl) (by kernel_rfl) (fun _ _ _ h => h) (Or.inl ⟨?wd174, ?hy174⟩) hHeld ?rest174
          case hi174 => (simp only [List.getElem?_toArray, List.getElem?_cons_succ, List.getElem?_cons_zero]; rfl)
          case wd174 => rfl
          case hy174 => (intro w hSw; (try dsimp only at hSw); go_simp; try with_reducible rfl)
          (try simp only [Act.put, List.setIfInBounds_toArray, List.set_cons_zero, List.set_cons_succ])
          refine wpAnyH_ready (rs := [6, 8]) (by kernel_rfl) (by simp) ?_
          refine AllReadyH.cons (o := ?o175) ?ho175 (fun K hK => ?step175) (AllReadyH.cons (o := ?o176) ?ho176 (fun K hK => ?step176) AllReadyH.nil)
          case ho175 => (simp only [List.getElem?_toArray, List.getElem?_cons_succ, List.getElem?_cons_zero]; rfl)
          case ho176 => (simp only [List.getElem?_toArray, List.getElem?_cons_succ, List.getElem?_cons_zero]; rfl)
          case step175 =>
            go_simp
            refine hK.out _ _ ?hS177 (fun hHeld' => ?rest177)
            case hS177 => ((try dsimp only); (go_split_ands; refine ⟨?_, ?_, ?_, ?_, ?_, ?_, ?_, ?_⟩ <;> (simp [go_sem]; done)))
            clear hK K
            (try simp only [Act.put, List.setIfInBounds_toArray, List.set_cons_zero, List.set_cons_succ])
            clear hHeld
            have hHeld := hHeld'
            clear hHeld'
            refine wpAnyH_ready (rs := [7, 8]) (by kernel_rfl) (by simp) ?_
            refine AllReadyH.cons (o := ?o178) ?ho178 (fun K hK => ?step178) (AllReadyH.cons (o := ?o179) ?ho179 (fun K hK => ?step179) AllReadyH.nil)
            case ho178 => (simp only [List.getElem?_toArray, List.getElem?_cons_succ, List.getElem?_cons_zero]; rfl)
            case ho179 => (simp only [List.getElem?_toArray, List.getElem?_cons_succ, List.getElem?_cons_zero]; rfl)
            case step178 =>
              go_simp
              refine hK.out _ _ ?hS180 (fun hHeld' => ?rest180)
              case hS180 => ((try dsimp only); (go_split_ands; refine ⟨?_, ?_, ?_, ?_, ?_, ?_, ?_, ?_⟩ <;> (simp [go_sem]; done)))
              clear hK K
              (try simp only [Act.put, List.setIfInBounds_toArray, List.set_cons_zero, List.set_cons_succ])
              clear hHeld
              have hHeld := hHeld'
              clear hHeld'
              refine wpAnyH_ready (rs := [8]) (by kernel_rfl) (by simp) ?_
              refine AllReadyH.cons (o := ?o181) ?ho181 (fun K hK => ?step181) AllReadyH.nil
              case ho181 => (simp only [List.getElem?_toArray, List.getElem?_cons_succ, List.getElem?_cons_zero]; rfl)
              go_simp
              (go_at_call 136; refine (l2Ariths_any _).mono ?_; rintro e' w' ⟨rfl, rfl⟩)
              (try go_wp2_with fail)
              refine hK.out _ _ ?hS182 (fun hHeld' => ?rest182)
              case hS182 => ((try dsimp only); (go_split_ands; refine ⟨?_, ?_, ?_, ?_, ?_, ?_, ?_, ?_⟩ <;> (simp [go_sem]; done)))
              clear hK K
              (try simp only [Act.put, List.setIfInBounds_toArray, List.set_cons_zero, List.set_cons_succ])
              clear hHeld
              have hHeld := hHeld'
              clear hHeld'
              refine wpAnyH_ready (rs := [9]) (by kernel_rfl) (by simp) ?_
              refine AllReadyH.cons (o := ?o183) ?ho183 (fun K hK => ?step183) AllReadyH.nil
              case ho183 => (simp only [List.getElem?_toArray, List.getElem?_cons_succ, List.getElem?_cons_zero]; rfl)
              go_simp
              (go_at_call 135; refine (hIs.out _ _ ?_).mono ?_; (first | exact ar_new _ _ _ (by simp) | exact ar_old _ _ _ _ (by simp)); rintro e' w' ⟨rfl, rfl⟩)
              (try go_wp2_with fail)
              refine hK.out _ _ ?hS184 (fun hHeld' => ?rest184)
              case hS184 => ((try dsimp only); (go_split_ands; refine ⟨?_, ?_, ?_, ?_, ?_, ?_, ?_, ?_⟩ <;> (simp [go_sem]; done)))
              clear hK K
              (try simp only [Act.put, List.setIfInBounds_toArray, List.set_cons_zero, List.set_cons_succ])
              clear hHeld
              have hHeld := hHeld'
              clear hHeld'
              refine wpAnyH_take (i := 10) (oi := ?oi185) (v := ?v185) ?hi185 (by kernel_rfl) (by kernel_rfl) (by kernel_rfl) (fun _ _ _ h => h) (Or.inl ⟨?wd185, ?hy185⟩) hHeld ?rest185
              case hi185 => (simp only [List.getElem?_toArray, List.getElem?_cons_succ, List.getElem?_cons_zero]; rfl)
              case wd185 => rfl
              case hy185 => (intro w hSw; (try dsimp only at hSw); go_simp; try with_reducible rfl)
              (try simp only [Act.put, List.setIfInBounds_toArray, List.set_cons_zero, List.set_cons_succ])
              refine wpAnyH_take (i := 11) (oi := ?oi186) (v := ?v186) ?hi186 (by kernel_rfl) (by kernel_rfl) (by kernel_rfl) (fun _ _ _ h => h) (Or.inl ⟨?wd186, ?hy186⟩) hHeld ?rest186
              case hi186 => (simp only [List.getElem?_toArray, List.getElem?_cons_succ, List.getElem?_cons_zero]; rfl)
              case wd186 => rfl
              case hy186 => (intro w hSw; (try dsimp only at hSw); go_simp; try with_reducible rfl)
              (try simp only [Act.put, List.setIfInBounds_toArray, List.set_cons_zero, List.set_cons_succ])
              refine wpAnyH_take (i := 12) (oi := ?oi187) (v := ?v187) ?hi187 (by kernel_rfl) (by kernel_rfl) (by kernel_rfl) (fun _ _ _ h => h) (Or.inl ⟨?wd187, ?hy187⟩) hHeld ?rest187
              case hi187 => (simp only [List.getElem?_toArray, List.getElem?_cons_succ, List.getElem?_cons_zero]; rfl)
              case wd187 => rfl
              case hy187 => (intro w hSw; (try dsimp only at hSw); go_simp; try with_reducible rfl)
              (try simp only [Act.put, List.setIfInBounds_toArray, List.set_cons_zero, List.set_cons_succ])
              refine wpAnyH_take (i := 13) (oi := ?oi188) (v := ?v188) ?hi188 (by kernel_rfl) (by kernel_rfl) (by kernel_rfl) (fun _ _ _ h => h) (Or.inl ⟨?wd188, ?hy188⟩) hHeld ?rest188
              case hi188 => (simp only [List.getElem?_toArray, List.getElem?_cons_succ, List.getElem?_cons_zero]; rfl)
              case wd188 => rfl
              case hy188 => (intro w hSw; (try dsimp only at hSw); go_simp; try with_reducible rfl)
              (try simp only [Act.put, List.setIfInBounds_toArray, List.set_cons_zero, List.set_cons_succ])
              refine wpAnyH_take (i := 14) (oi := ?oi189) (v := ?v189) ?hi189 (by kernel_rfl) (by kernel_rfl) (by kernel_rfl) (fun _ _ _ h => h) (Or.inl ⟨?wd189, ?hy189⟩) hHeld ?rest189
              case hi189 => (simp only [List.getElem?_toArray, List.getElem?_cons_succ, List.getElem?_cons_zero]; rfl)
              case wd189 => rfl
              case hy189 => (intro w hSw; (try dsimp only at hSw); go_simp; try with_reducible rfl)
              (try simp only [Act.put, List.setIfInBounds_toArray, List.set_cons_zero, List.set_cons_succ])
              refine wpAnyH_take (i := 15) (oi := ?oi190) (v := ?v190) ?hi190 (by kernel_rfl) (by kernel_rfl) (by kernel_rfl) (fun _ _ _ h => h) (Or.inl ⟨?wd190, ?hy190⟩) hHeld ?rest190
              case hi190 => (simp only [List.getElem?_toArray, List.getElem?_cons_succ, List.getElem?_cons_zero]; rfl)
              case wd190 => rfl
              case hy190 => (intro w hSw; (try dsimp only at hSw); go_simp; try with_reducible rfl)
              (try simp only [Act.put, List.setIfInBounds_toArray, List.set_cons_zero, List.set_cons_succ])
              refine wpAnyH_take (i := 16) (oi := ?oi191) (v := ?v191) ?hi191 (by kernel_rfl) (by kernel_rfl) (by kernel_rfl) (fun _ _ _ h => h) (Or.inl ⟨?wd191, ?hy191⟩) hHeld ?rest191
              case hi191 => (simp only [List.getElem?_toArray, List.getElem?_cons_succ, List.getElem?_cons_zero]; rfl)
              case wd191 => rfl
              case hy191 => (intro w hSw; (try dsimp only at hSw); go_simp; try with_reducible rfl)
              (try simp only [Act.put, List.setIfInBounds_toArray, List.set_cons_zero, List.set_cons_succ])
              by_cases a0 : e.a < 0
              · have ha0 : decide (e.a < 0) = true := decide_eq_true a0
                simp only [ha0]
                have HBAD := hidE (HB0.out a0)
                clear a0
                refine wpAnyH_take (i := 17) (oi := ?oi192) (v := undef) ?hi192 (by kernel_rfl) (by kernel_rfl) (by kernel_rfl) (fun _ _ _ h => h) (Or.inr ⟨?wd192, rfl⟩) hHeld ?rest192
                case hi192 => (simp only [List.getElem?_toArray, List.getElem?_cons_succ, List.getElem?_cons_zero]; rfl)
                case wd192 => rfl
                (try simp only [Act.put, List.setIfInBounds_toArray, List.set_cons_zero, List.set_cons_succ])
                refine wpAnyH_take (i := 18) (oi := ?oi193) (v := undef) ?hi193 (by kernel_rfl) (by kernel_rfl) (by kernel_rfl) (fun _ _ _ h => h) (Or.inr ⟨?wd193, rfl⟩) hHeld ?rest193
                case hi193 => (simp only [List.getElem?_toArray, List.getElem?_cons_succ, List.getElem?_cons_zero]; rfl)
                case wd193 => rfl
                (try simp only [Act.put, List.setIfInBounds_toArray, List.set_cons_zero, List.set_cons_succ])
                refine wpAnyH_take (i := 19) (oi := ?oi194) (v := undef) ?hi194 (by kernel_rfl) (by kernel_rfl) (by kernel_rfl) (fun _ _ _ h => h) (Or.inr ⟨?wd194, rfl⟩) hHeld ?rest194
                case hi194 => (simp only [List.getElem?_toArray, List.getElem?_cons_succ, List.getElem?_cons_zero]; rfl)
                case wd194 => rfl
                (try simp only [Act.put, List.setIfInBounds_toArray, List.set_cons_zero, List.set_cons_succ])
                refine wpAnyH_take (i := 20) (oi := ?oi195) (v := undef) ?hi195 (by kernel_rfl) (by kernel_rfl) (by kernel_rfl) (fun _ _ _ h => h) (Or.inr ⟨?wd195, rfl⟩) hHeld ?rest195
                case hi195 => (simp only [List.getElem?_toArray, List.getElem?_cons_succ, List.getElem?_cons_zero]; rfl)
                case wd195 => rfl
                (try simp only [Act.put, List.setIfInBounds_toArray, List.set_cons_zero, List.set_cons_succ])
                refine wpAnyH_take (i := 21) (oi := ?oi196) (v := ?v196) ?hi196 (by kernel_rfl) (by kernel_rfl) (by kernel_rfl) (fun _ _ _ h => h) (Or.inl ⟨?wd196, ?hy196⟩) hHeld ?rest196
                case hi196 => (simp only [List.getElem?_toArray, List.getElem?_cons_succ, List.getElem?_cons_zero]; rfl)
                case wd196 => rfl
                case hy196 => (intro w hSw; (try dsimp only at hSw); go_simp; try with_reducible rfl)
                (try simp only [Act.put, List.setIfInBounds_toArray, List.set_cons_zero, List.set_cons_succ])
                refine wpAnyH_take (i := 22) (oi := ?oi197) (v := ?v197) ?hi197 (by kernel_rfl) (by kernel_rfl) (by kernel_rfl) (fun _ _ _ h => h) (Or.inl ⟨?wd197, ?hy197⟩) hHeld ?rest197
                case hi197 => (simp only [List.getElem?_toArray, List.getElem?_cons_succ, List.getElem?_cons_zero]; rfl)
                case wd197 => rfl
                case hy197 => (intro w hSw; (try dsimp only at hSw); go_simp; try with_reducible rfl)
                (try simp only [Act.put, List.setIfInBounds_toArray, List.set_cons_zero, List.set_cons_succ])
                refine wpAnyH_take (i := 23) (oi := ?oi198) (v := undef) ?hi198 (by kernel_rfl) (by kernel_rfl) (by kernel_rfl) (fun _ _ _ h => h) (Or.inr ⟨?wd198, rfl⟩) hHeld ?rest198
                case hi198 => (simp only [List.getElem?_toArray, List.getElem?_cons_succ, List.getElem?_cons_zero]; rfl)
                case wd198 => rfl
                (try simp only [Act.put, List.setIfInBounds_toArray, List.set_cons_zero, List.set_cons_succ])
                refine wpAnyH_take (i := 24) (oi := ?oi199) (v := undef) ?hi199 (by kernel_rfl) (by kernel_rfl) (by kernel_rfl) (fun _ _ _ h => h) (Or.inr ⟨?wd199, rfl⟩) hHeld ?rest199
                case hi199 => (simp only [List.getElem?_toArray, List.getElem?_cons_succ, List.getElem?_cons_zero]; rfl)
                case wd199 => rfl
                (try simp only [Act.put, List.setIfInBounds_toArray, List.set_cons_zero, List.set_cons_succ])
                refine wpAnyH_take (i := 25) (oi := ?oi200) (v := undef) ?hi200 (by kernel_rfl) (by kernel_rfl) (by kernel_rfl) (fun _ _ _ h => h) (Or.inr ⟨?wd200, rfl⟩) hHeld ?rest200
                case hi200 => (simp only [List.getElem?_toArray, List.getElem?_cons_succ, List.getElem?_cons_zero]; rfl)
                case wd200 => rfl
                (try simp only [Act.put, List.setIfInBounds_toArray, List.set_cons_zero, List.set_cons_succ])
                refine wpAnyH_take (i := 26) (oi := ?oi201) (v := ?v201) ?hi201 (by kernel_rfl) (by kernel_rfl) (by kernel_rfl) (fun _ _ _ h => h) (Or.inl ⟨?wd201, ?hy201⟩) hHeld ?rest201
                case hi201 => (simp only [List.getElem?_toArray, List.getElem?_cons_succ, List.getElem?_cons_zero]; rfl)
                case wd201 => rfl
                case hy201 => (intro w hSw; (try dsimp only at hSw); go_simp; try with_reducible rfl)
                (try simp only [Act.put, List.setIfInBounds_toArray, List.set_cons_zero, List.set_cons_succ])
                refine wpAnyH_take (i := 27) (oi := ?oi202) (v := ?v202) ?hi202 (by kernel_rfl) (by kernel_rfl) (by kernel_rfl) (fun _ _ _ h => h) (Or.inl ⟨?wd202, ?hy202⟩) hHeld ?rest202
                case hi202 => (simp only [List.getElem?_toArray, List.getElem?_cons_succ, List.getElem?_cons_zero]; rfl)
                case wd202 => rfl
                case hy202 => (intro w hSw; (try dsimp only at hSw); go_simp; try with_reducible rfl)
                (try simp only [Act.put, List.setIfInBounds_toArray, List.set_cons_zero, List.set_cons_succ])
                refine wpAnyH_take (i := 28) (oi := ?oi203) (v := undef) ?hi203 (by kernel_rfl) (by kernel_rfl) (by kernel_rfl) (fun _ _ _ h => h) (Or.inr ⟨?wd203, rfl⟩) hHeld ?rest203
                case hi203 => (simp only [List.getElem?_toArray, List.getElem?_cons_succ, List.getElem?_cons_zero]; rfl)
                case wd203 => rfl
                (try simp only [Act.put, List.setIfInBounds_toArray, List.set_cons_zero, List.set_cons_succ])
                refine wpAnyH_take (i := 29) (oi := ?oi204) (v := undef) ?hi204 (by kernel_rfl) (by kernel_rfl) (by kernel_rfl) (fun _ _ _ h => h) (Or.inr ⟨?wd204, rfl⟩) hHeld ?rest204
                case hi204 => (simp only [List.getElem?_toArray, List.getElem?_cons_succ, List.getElem?_cons_zero]; rfl)
                case wd204 => rfl
                (try simp only [Act.put, List.setIfInBounds_toArray, List.set_cons_zero, List.set_cons_succ])
                refine wpAnyH_take (i := 30) (oi := ?oi205) (v := undef) ?hi205 (by kernel_rfl) (by kernel_rfl) (by kernel_rfl) (fun _ _ _ h => h) (Or.inr ⟨?wd205, rfl⟩) hHeld ?rest205
                case hi205 => (simp only [List.getElem?_toArray, List.getElem?_cons_succ, List.getElem?_cons_zero]; rfl)
                case wd205 => rfl
                (try simp only [Act.put, List.setIfInBounds_toArray, List.set_cons_zero, List.set_cons_succ])
                refine wpAnyH_take (i := 31) (oi := ?oi206) (v := undef) ?hi206 (by kernel_rfl) (by kernel_rfl) (by kernel_rfl) (fun _ _ _ h => h) (Or.inr ⟨?wd206, rfl⟩) hHeld ?rest206
                case hi206 => (simp only [List.getElem?_toArray, List.getElem?_cons_succ, List.getElem?_cons_zero]; rfl)
                case wd206 => rfl
                (try simp only [Act.put, List.setIfInBounds_toArray, List.set_cons_zero, List.set_cons_succ])
                refine wpAnyH_take (i := 32) (oi := ?oi207) (v := ?v207) ?hi207 (by kernel_rfl) (by kernel_rfl) (by kernel_rfl) (fun _ _ _ h => h) (Or.inl ⟨?wd207, ?hy207⟩) hHeld ?rest207
                case hi207 => (simp only [List.getElem?_toArray, List.getElem?_cons_succ, List.getElem?_cons_zero]; rfl)
                case wd207 => rfl
                case hy207 => (intro w hSw; (try dsimp only at hSw); go_simp; try with_reducible rfl)
                (try simp only [Act.put, List.setIfInBounds_toArray, List.set_cons_zero, List.set_cons_succ])
                refine wpAnyH_take (i := 33) (oi := ?oi208) (v := ?v208) ?hi208 (by kernel_rfl) (by kernel_rfl) (by kernel_rfl) (fun _ _ _ h => h) (Or.inl ⟨?wd208, ?hy208⟩) hHeld ?rest208
                case hi208 => (simp only [List.getElem?_toArray, List.getElem?_cons_succ, List.getElem?_cons_zero]; rfl)
                case wd208 => rfl
                case hy208 => (intro w hSw; (try dsimp only at hSw); go_simp; try with_reducible rfl)
                (try simp only [Act.put, List.setIfInBounds_toArray, List.set_cons_zero, List.set_cons_succ])
                refine wpAnyH_done (by kernel_rfl) ?_ _
                refine NoPanic.normal ?_
                refine lift_world (wr := wr) ?_
                intro W hWW
                clear f0 f1 f2 f3 z0 z1 z2 z3 hHeld
                obtain ⟨⟨f0, f1, f2, f3⟩, ⟨z0, z1, z2, z3⟩, hltW⟩ := (HBX.out.bel hWW).facts
                go_wp2_with fail
                refine bodyPost_ret (v := evV (evBad 1)) (by simp [results, Try.results75, go_sem, f0, f1, f2, f3, evV_bad]) rfl ⟨by rw [HBAD.out], ?_⟩
                exact ((((hb.trans (hWW.mono hb.size)).setCell (by simp) _).setCell (by simp) _).setCell (by simp) _).setCell (by simp) _
              · have ha0 : decide (e.a < 0) = false := decide_eq_false a0
                simp only [ha0]
                refine wpAnyH_take (i := 17) (oi := ?oi209) (v := ?v209) ?hi209 (by kernel_rfl) (by kernel_rfl) (by kernel_rfl) (fun _ _ _ h => h) (Or.inl ⟨?wd209, ?hy209⟩) hHeld ?rest209
                case hi209 => (simp only [List.getElem?_toArray, List.getElem?_cons_succ, List.getElem?_cons_zero]; rfl)
                case wd209 => rfl
                case hy209 => (intro w hSw; (try dsimp only at hSw); go_simp; try with_reducible rfl)
                (try simp only [Act.put, List.setIfInBounds_toArray, List.set_cons_zero, List.set_cons_succ])
                refine wpAnyH_take (i := 18) (oi := ?oi210) (v := ?v210) ?hi210 (by kernel_rfl) (by kernel_rfl) (by kernel_rfl) (fun _ _ _ h => h) (Or.inl ⟨?wd210, ?hy210⟩) hHeld ?rest210
                case hi210 => (simp only [List.getElem?_toArray, List.getElem?_cons_succ, List.getElem?_cons_zero]; rfl)
                case wd210 => rfl
                case hy210 => (intro w hSw; (try dsimp only at hSw); go_simp; try with_reducible rfl)
                (try simp only [Act.put, List.setIfInBounds_toArray, List.set_cons_zero, List.set_cons_succ])
                refine wpAnyH_take (i := 19) (oi := ?oi211) (v := ?v211) ?hi211 (by kernel_rfl) (by kernel_rfl) (by kernel_rfl) (fun _ _ _ h => h) (Or.inl ⟨?wd211, ?hy211⟩) hHeld ?rest211
                case hi211 => (simp only [List.getElem?_toArray, List.getElem?_cons_succ, List.getElem?_cons_zero]; rfl)
                case wd211 => rfl
                case hy211 => (intro w hSw; (try dsimp only at hSw); go_simp; try with_reducible rfl)
                (try simp only [Act.put, List.setIfInBounds_toArray, List.set_cons_zero, List.set_cons_succ])
                refine wpAnyH_take (i := 20) (oi := ?oi212) (v := ?v212) ?hi212 (by kernel_rfl) (by kernel_rfl) (by kernel_rfl) (fun _ _ _ h => h) (Or.inl ⟨?wd212, ?hy212⟩) hHeld ?rest212
                case hi212 => (simp only [List.getElem?_toArray, List.getElem?_cons_succ, List.getElem?_cons_zero]; rfl)
                case wd212 => rfl
                case hy212 => (intro w hSw; (try dsimp only at hSw); go_simp; try with_reducible rfl)
                (try simp only [Act.put, List.setIfInBounds_toArray, List.set_cons_zero, List.set_cons_succ])
                refine wpAnyH_take (i := 21) (oi := ?oi213) (v := ?v213) ?hi213 (by kernel_rfl) (by kernel_rfl) (by kernel_rfl) (fun _ _ _ h => h) (Or.inl ⟨?wd213, ?hy213⟩) hHeld ?rest213
                case hi213 => (simp only [List.getElem?_toArray, List.getElem?_cons_succ, List.getElem?_cons_zero]; rfl)
                case wd213 => rfl
                case hy213 => (intro w hSw; (try dsimp only at hSw); go_simp; try with_reducible rfl)
                (try simp only [Act.put, List.setIfInBounds_toArray, List.set_cons_zero, List.set_cons_succ])
                refine wpAnyH_take (i := 22) (oi := ?oi214) (v := ?v214) ?hi214 (by kernel_rfl) (by kernel_rfl) (by kernel_rfl) (fun _ _ _ h => h) (Or.inl ⟨?wd214, ?hy214⟩) hHeld ?rest214
                case hi214 => (simp only [List.getElem?_toArray, List.getElem?_cons_succ, List.getElem?_cons_zero]; rfl)
                case wd214 => rfl
                case hy214 => (intro w hSw; (try dsimp only at hSw); go_simp; try with_reducible rfl)
                (try simp only [Act.put, List.setIfInBounds_toArray, List.set_cons_zero, List.set_cons_succ])
                by_cases a1 : (k : Int) ≤ e.a
                · have ha1 : decide ((k : Int) ≤ e.a) = true := decide_eq_true a1
                  simp only [ha1]
                  have HBAD := hidE (HB1.out a1)
                  clear a1
                  refine wpAnyH_take (i := 23) (oi := ?oi215) (v := undef) ?hi215 (by kernel_rfl) (by kernel_rfl) (by kernel_rfl) (fun _ _ _ h => h) (Or.inr ⟨?wd215, rfl⟩) hHeld ?rest215
                  case hi215 => (simp only [List.getElem?_toArray, List.getElem?_cons_succ, List.getElem?_cons_zero]; rfl)
                  case wd215 => rfl
                  (try simp only [Act.put, List.setIfInBounds_toArray, List.set_cons_zero, List.set_cons_succ])
                  refine wpAnyH_take (i := 24) (oi := ?oi216) (v := undef) ?hi216 (by kernel_rfl) (by kernel_rfl) (by kernel_rfl) (fun _ _ _ h => h) (Or.inr ⟨?wd216, rfl⟩) hHeld ?rest216
                  case hi216 => (simp only [List.getElem?_toArray, List.getElem?_cons_succ, List.getElem?_cons_zero]; rfl)
                  case wd216 => rfl
                  (try simp only [Act.put, List.setIfInBounds_toArray, List.set_cons_zero, List.set_cons_succ])
                  refine wpAnyH_take (i := 25) (oi := ?oi217) (v := undef) ?hi217 (by kernel_rfl) (by kernel_rfl) (by kernel_rfl) (fun _ _ _ h => h) (Or.inr ⟨?wd217, rfl⟩) hHeld ?rest217
                  case hi217 => (simp only [List.getElem?_toArray, List.getElem?_cons_succ, List.getElem?_cons_zero]; rfl)
                  case wd217 => rfl
                  (try simp only [Act.put, List.setIfInBounds_toArray, List.set_cons_zero, List.set_cons_succ])
                  refine wpAnyH_take (i := 26) (oi := ?oi218) (v := ?v218) ?hi218 (by kernel_rfl) (by kernel_rfl) (by kernel_rfl) (fun _ _ _ h => h) (Or.inl ⟨?wd218, ?hy218⟩) hHeld ?rest218
                  case hi218 => (simp only [List.getElem?_toArray, List.getElem?_cons_succ, List.getElem?_cons_zero]; rfl)
                  case wd218 => rfl
                  case hy218 => (intro w hSw; (try dsimp only at hSw); go_simp; try with_reducible rfl)
                  (try simp only [Act.put, List.setIfInBounds_toArray, List.set_cons_zero, List.set_cons_succ])
                  refine wpAnyH_take (i := 27) (oi := ?oi219) (v := ?v219) ?hi219 (by kernel_rfl) (by kernel_rfl) (by kernel_rfl) (fun _ _ _ h => h) (Or.inl ⟨?wd219, ?hy219⟩) hHeld ?rest219
                  case hi219 => (simp only [List.getElem?_toArray, List.getElem?_cons_succ, List.getElem?_cons_zero]; rfl)
                  case wd219 => rfl
                  case hy219 => (intro w hSw; (try dsimp only at hSw); go_simp; try with_reducible rfl)
                  (try simp only [Act.put, List.setIfInBounds_toArray, List.set_cons_zero, List.set_cons_succ])
                  refine wpAnyH_take (i := 28) (oi := ?oi220) (v := undef) ?hi220 (by kernel_rfl) (by kernel_rfl) (by kernel_rfl) (fun _ _ _ h => h) (Or.inr ⟨?wd220, rfl⟩) hHeld ?rest220
                  case hi220 => (simp only [List.getElem?_toArray, List.getElem?_cons_succ, List.getElem?_cons_zero]; rfl)
                  case wd220 => rfl
                  (try simp only [Act.put, List.setIfInBounds_toArray, List.set_cons_zero, List.set_cons_succ])
                  refine wpAnyH_take (i := 29) (oi := ?oi221) (v := undef) ?hi221 (by kernel_rfl) (by kernel_rfl) (by kernel_rfl) (fun _ _ _ h => h) (Or.inr ⟨?wd221, rfl⟩) hHeld ?rest221
                  case hi221 => (simp only [List.getElem?_toArray, List.getElem?_cons_succ, List.getElem?_cons_zero]; rfl)
                  case wd221 => rfl
                  (try simp only [Act.put, List.setIfInBounds_toArray, List.set_cons_zero, List.set_cons_succ])
                  refine wpAnyH_take (i := 30) (oi := ?oi222) (v := undef) ?hi222 (by kernel_rfl) (by kernel_rfl) (by kernel_rfl) (fun _ _ _ h => h) (Or.inr ⟨?wd222, rfl⟩) hHeld ?rest222
                  case hi222 => (simp only [List.getElem?_toArray, List.getElem?_cons_succ, List.getElem?_cons_zero]; rfl)
                  case wd222 => rfl
                  (try simp only [Act.put, List.setIfInBounds_toArray, List.set_cons_zero, List.set_cons_succ])
                  refine wpAnyH_take (i := 31) (oi := ?oi223) (v := undef) ?hi223 (by kernel_rfl) (by kernel_rfl) (by kernel_rfl) (fun _ _ _ h => h) (Or.inr ⟨?wd223, rfl⟩) hHeld ?rest223
                  case hi223 => (simp only [List.getElem?_toArray, List.getElem?_cons_succ, List.getElem?_cons_zero]; rfl)
                  case wd223 => rfl
                  (try simp only [Act.put, List.setIfInBounds_toArray, List.set_cons_zero, List.set_cons_succ])
                  refine wpAnyH_take (i := 32) (oi := ?oi224) (v := ?v224) ?hi224 (by kernel_rfl) (by kernel_rfl) (by kernel_rfl) (fun _ _ _ h => h) (Or.inl ⟨?wd224, ?hy224⟩) hHeld ?rest224
                  case hi224 => (simp only [List.getElem?_toArray, List.getElem?_cons_succ, List.getElem?_cons_zero]; rfl)
                  case wd224 => rfl
                  case hy224 => (intro w hSw; (try dsimp only at hSw); go_simp; try with_reducible rfl)
                  (try simp only [Act.put, List.setIfInBounds_toArray, List.set_cons_zero, List.set_cons_succ])
                  refine wpAnyH_take (i := 33) (oi := ?oi225) (v := ?v225) ?hi225 (by kernel_rfl) (by kernel_rfl) (by kernel_rfl) (fun _ _ _ h => h) (Or.inl ⟨?wd225, ?hy225⟩) hHeld ?rest225
                  case hi225 => (simp only [List.getElem?_toArray, List.getElem?_cons_succ, List.getElem?_cons_zero]; rfl)
                  case wd225 => rfl
                  case hy225 => (intro w hSw; (try dsimp only at hSw); go_simp; try with_reducible rfl)
                  (try simp only [Act.put, List.setIfInBounds_toArray, List.set_cons_zero, List.set_cons_succ])
                  refine wpAnyH_done (by kernel_rfl) ?_ _
                  refine NoPanic.normal ?_
                  refine lift_world (wr := wr) ?_
                  intro W hWW
                  clear f0 f1 f2 f3 z0 z1 z2 z3 hHeld
                  obtain ⟨⟨f0, f1, f2, f3⟩, ⟨z0, z1, z2, z3⟩, hltW⟩ := (HBX.out.bel hWW).facts
                  go_wp2_with fail
                  refine bodyPost_ret (v := evV (evBad 1)) (by simp [results, Try.results75, go_sem, f0, f1, f2, f3, evV_bad]) rfl ⟨by rw [HBAD.out], ?_⟩
                  exact ((((hb.trans (hWW.mono hb.size)).setCell (by simp) _).setCell (by simp) _).setCell (by simp) _).setCell (by simp) _
                · have ha1 : decide ((k : Int) ≤ e.a) = false := decide_eq_false a1
                  simp only [ha1]
                  refine wpAnyH_take (i := 23) (oi := ?oi226) (v := ?v226) ?hi226 (by kernel_rfl) (by kernel_rfl) (by kernel_rfl) (fun _ _ _ h => h) (Or.inl ⟨?wd226, ?hy226⟩) hHeld ?rest226
                  case hi226 => (simp only [List.getElem?_toArray, List.getElem?_cons_succ, List.getElem?_cons_zero]; rfl)
                  case wd226 => rfl
                  case hy226 => (intro w hSw; (try dsimp only at hSw); go_simp; try with_reducible rfl)
                  (try simp only [Act.put, List.setIfInBounds_toArray, List.set_cons_zero, List.set_cons_succ])
                  refine wpAnyH_take (i := 24) (oi := ?oi227) (v := ?v227) ?hi227 (by kernel_rfl) (by kernel_rfl) (by kernel_rfl) (fun _ _ _ h => h) (Or.inl ⟨?wd227, ?hy227⟩) hHeld ?rest227
                  case hi227 => (simp only [List.getElem?_toArray, List.getElem?_cons_succ, List.getElem?_cons_zero]; rfl)
                  case wd227 => rfl
                  case hy227 => (intro w hSw; (try dsimp only at hSw); go_simp; try with_reducible rfl)
                  (try simp only [Act.put, List.setIfInBounds_toArray, List.set_cons_zero, List.set_cons_succ])
                  refine wpAnyH_take (i := 25) (oi := ?oi228) (v := ?v228) ?hi228 (by kernel_rfl) (by kernel_rfl) (by kernel_rfl) (fun _ _ _ h => h) (Or.inl ⟨?wd228, ?hy228⟩) hHeld ?rest228
                  case hi228 => (simp only [List.getElem?_toArray, List.getElem?_cons_succ, List.getElem?_cons_zero]; rfl)
                  case wd228 => rfl
                  case hy228 => (intro w hSw; (try dsimp only at hSw); go_simp; try with_reducible rfl)
                  (try simp only [Act.put, List.setIfInBounds_toArray, List.set_cons_zero, List.set_cons_succ])
                  refine wpAnyH_take (i := 26) (oi := ?oi229) (v := ?v229) ?hi229 (by kernel_rfl) (by kernel_rfl) (by kernel_rfl) (fun _ _ _ h => h) (Or.inl ⟨?wd229, ?hy229⟩) hHeld ?rest229
                  case hi229 => (simp only [List.getElem?_toArray, List.getElem?_cons_succ, List.getElem?_cons_zero]; rfl)
                  case wd229 => rfl
                  case hy229 => (intro w hSw; (try dsimp only at hSw); go_simp; try with_reducible rfl)
                  (try simp only [Act.put, List.setIfInBounds_toArray, List.set_cons_zero, List.set_cons_succ])
                  refine wpAnyH_take (i := 27) (oi := ?oi230) (v := ?v230) ?hi230 (by kernel_rfl) (by kernel_rfl) (by kernel_rfl) (fun _ _ _ h => h) (Or.inl ⟨?wd230, ?hy230⟩) hHeld ?rest230
                  case hi230 => (simp only [List.getElem?_toArray, List.getElem?_cons_succ, List.getElem?_cons_zero]; rfl)
                  case wd230 => rfl
                  case hy230 => (intro w hSw; (try dsimp only at hSw); go_simp; try with_reducible rfl)
                  (try simp only [Act.put, List.setIfInBounds_toArray, List.set_cons_zero, List.set_cons_succ])
                  by_cases b0 : e.b < 0
                  · have hb0 : decide (e.b < 0) = true := decide_eq_true b0
                    simp only [hb0]
                    have HBAD := hidE (HB2.out b0)
                    clear b0
                    refine wpAnyH_take (i := 28) (oi := ?oi231) (v := undef) ?hi231 (by kernel_rfl) (by kernel_rfl) (by kernel_rfl) (fun _ _ _ h => h) (Or.inr ⟨?wd231, rfl⟩) hHeld ?rest231
                    case hi231 => (simp only [List.getElem?_toArray, List.getElem?_cons_succ, List.getElem?_cons_zero]; rfl)
                    case wd231 => rfl
                    (try simp only [Act.put, List.setIfInBounds_toArray, List.set_cons_zero, List.set_cons_succ])
                    refine wpAnyH_take (i := 29) (oi := ?oi232) (v := undef) ?hi232 (by kernel_rfl) (by kernel_rfl) (by kernel_rfl) (fun _ _ _ h => h) (Or.inr ⟨?wd232, rfl⟩) hHeld ?rest232
                    case hi232 => (simp only [List.getElem?_toArray, List.getElem?_cons_succ, List.getElem?_cons_zero]; rfl)
                    case wd232 => rfl
                    (try simp only [Act.put, List.setIfInBounds_toArray, List.set_cons_zero, List.set_cons_succ])
                    refine wpAnyH_take (i := 30) (oi := ?oi233) (v := undef) ?hi233 (by kernel_rfl) (by kernel_rfl) (by kernel_rfl) (fun _ _ _ h => h) (Or.inr ⟨?wd233, rfl⟩) hHeld ?rest233
                    case hi233 => (simp only [List.getElem?_toArray, List.getElem?_cons_succ, List.getElem?_cons_zero]; rfl)
                    case wd233 => rfl
                    (try simp only [Act.put, List.setIfInBounds_toArray, List.set_cons_zero, List.set_cons_succ])
                    refine wpAnyH_take (i := 31) (oi := ?oi234) (v := undef) ?hi234 (by kernel_rfl) (by kernel_rfl) (by kernel_rfl) (fun _ _ _ h => h) (Or.inr ⟨?wd234, rfl⟩) hHeld ?rest234
                    case hi234 => (simp only [List.getElem?_toArray, List.getElem?_cons_succ, List.getElem?_cons_zero]; rfl)
                    case wd234 => rfl
                    (try simp only [Act.put, List.setIfInBounds_toArray, List.set_cons_zero, List.set_cons_succ])
                    refine wpAnyH_take (i := 32) (oi := ?oi235) (v := ?v235) ?hi235 (by kernel_rfl) (by kernel_rfl) (by kernel_rfl) (fun _ _ _ h => h) (Or.inl ⟨?wd235, ?hy235⟩) hHeld ?rest235
                    case hi235 => (simp only [List.getElem?_toArray, List.getElem?_cons_succ, List.getElem?_cons_zero]; rfl)
                    case wd235 => rfl
                    case hy235 => (intro w hSw; (try dsimp only at hSw); go_simp; try with_reducible rfl)
                    (try simp only [Act.put, List.setIfInBounds_toArray, List.set_cons_zero, List.set_cons_succ])
                    refine wpAnyH_take (i := 33) (oi := ?oi236) (v := ?v236) ?hi236 (by kernel_rfl) (by kernel_rfl) (by kernel_rfl) (fun _ _ _ h => h) (Or.inl ⟨?wd236, ?hy236⟩) hHeld ?rest236
                    case hi236 => (simp only [List.getElem?_toArray, List.getElem?_cons_succ, List.getElem?_cons_zero]; rfl)
                    case wd236 => rfl
                    case hy236 => (intro w hSw; (try dsimp only at hSw); go_simp; try with_reducible rfl)
                    (try simp only [Act.put, List.setIfInBounds_toArray, List.set_cons_zero, List.set_cons_succ])
                    refine wpAnyH_done (by kernel_rfl) ?_ _
                    refine NoPanic.normal ?_
                    refine lift_world (wr := wr) ?_
                    intro W hWW
                    clear f0 f1 f2 f3 z0 z1 z2 z3 hHeld
                    obtain ⟨⟨f0, f1, f2, f3⟩, ⟨z0, z1, z2, z3⟩, hltW⟩ := (HBX.out.bel hWW).facts
                    go_wp2_with fail
                    refine bodyPost_ret (v := evV (evBad 1)) (by simp [results, Try.results75, go_sem, f0, f1, f2, f3, evV_bad]) rfl ⟨by rw [HBAD.out], ?_⟩
                    exact ((((hb.trans (hWW.mono hb.size)).setCell (by simp) _).setCell (by simp) _).setCell (by simp) _).setCell (by simp) _
                  · have hb0 : decide (e.b < 0) = false := decide_eq_false b0
                    simp only [hb0]
                    refine wpAnyH_take (i := 28) (oi := ?oi237) (v := ?v237) ?hi237 (by kernel_rfl) (by kernel_rfl) (by kernel_rfl) (fun _ _ _ h => h) (Or.inl ⟨?wd237, ?hy237⟩) hHeld ?rest237
                    case hi237 => (simp only [List.getElem?_toArray, List.getElem?_cons_succ, List.getElem?_cons_zero]; rfl)
                    case wd237 => rfl
                    case hy237 => (intro w hSw; (try dsimp only at hSw); go_simp; try with_reducible rfl)
                    (try simp only [Act.put, List.setIfInBounds_toArray, List.set_cons_zero, List.set_cons_succ])
                    refine wpAnyH_take (i := 29) (oi := ?oi238) (v := ?v238) ?hi238 (by kernel_rfl) (by kernel_rfl) (by kernel_rfl) (fun _ _ _ h => h) (Or.inl ⟨?wd238, ?hy238⟩) hHeld ?rest238
                    case hi238 => (simp only [List.getElem?_toArray, List.getElem?_cons_succ, List.getElem?_cons_zero]; rfl)
                    case wd238 => rfl
                    case hy238 => (intro w hSw; (try dsimp only at hSw); go_simp; try with_reducible rfl)
                    (try simp only [Act.put, List.setIfInBounds_toArray, List.set_cons_zero, List.set_cons_succ])
                    refine wpAnyH_take (i := 30) (oi := ?oi239) (v := ?v239) ?hi239 (by kernel_rfl) (by kernel_rfl) (by kernel_rfl) (fun _ _ _ h => h) (Or.inl ⟨?wd239, ?hy239⟩) hHeld ?rest239
                    case hi239 => (simp only [List.getElem?_toArray, List.getElem?_cons_succ, List.getElem?_cons_zero]; rfl)
                    case wd239 => rfl
                    case hy239 => (intro w hSw; (try dsimp only at hSw); go_simp; try with_reducible rfl)
                    (try simp only [Act.put, List.setIfInBounds_toArray, List.set_cons_zero, List.set_cons_succ])
                    refine wpAnyH_take (i := 31) (oi := ?oi240) (v := ?v240) ?hi240 (by kernel_rfl) (by kernel_rfl) (by kernel_rfl) (fun _ _ _ h => h) (Or.inl ⟨?wd240, ?hy240⟩) hHeld ?rest240
                    case hi240 => (simp only [List.getElem?_toArray, List.getElem?_cons_succ, List.getElem?_cons_zero]; rfl)
                    case wd240 => rfl
                    case hy240 => (intro w hSw; (try dsimp only at hSw); go_simp; try with_reducible rfl)
                    (try simp only [Act.put, List.setIfInBounds_toArray, List.set_cons_zero, List.set_cons_succ])
                    refine wpAnyH_take (i := 32) (oi := ?oi241) (v := ?v241) ?hi241 (by kernel_rfl) (by kernel_rfl) (by kernel_rfl) (fun _ _ _ h => h) (Or.inl ⟨?wd241, ?hy241⟩) hHeld ?rest241
                    case hi241 => (simp only [List.getElem?_toArray, List.getElem?_cons_succ, List.getElem?_cons_zero]; rfl)
                    case wd241 => rfl
                    case hy241 => (intro w hSw; (try dsimp only at hSw); go_simp; try with_reducible rfl)
                    (try simp only [Act.put, List.setIfInBounds_toArray, List.set_cons_zero, List.set_cons_succ])
                    by_cases b1 : (k : Int) ≤ e.b
                    · have hb1 : decide ((k : Int) ≤ e.b) = true := decide_eq_true b1
                      simp only [hb1]
                      have HBAD := hidE (HB3.out b1)
                      clear b1
                      refine wpAnyH_take (i := 33) (oi := ?oi242) (v := ?v242) ?hi242 (by kernel_rfl) (by kernel_rfl) (by kernel_rfl) (fun _ _ _ h => h) (Or.inl ⟨?wd242, ?hy242⟩) hHeld ?rest242
                      case hi242 => (simp only [List.getElem?_toArray, List.getElem?_cons_succ, List.getElem?_cons_zero]; rfl)
                      case wd242 => rfl
                      case hy242 => (intro w hSw; (try dsimp only at hSw); go_simp; try with_reducible rfl)
                      (try simp only [Act.put, List.setIfInBounds_toArray, List.set_cons_zero, List.set_cons_succ])
                      refine wpAnyH_done (by kernel_rfl) ?_ _
                      refine NoPanic.normal ?_
                      refine lift_world (wr := wr) ?_
                      intro W hWW
                      clear f0 f1 f2 f3 z0 z1 z2 z3 hHeld
                      obtain ⟨⟨f0, f1, f2, f3⟩, ⟨z0, z1, z2, z3⟩, hltW⟩ := (HBX.out.bel hWW).facts
                      go_wp2_with fail
                      refine bodyPost_ret (v := evV (evBad 1)) (by simp [results, Try.results75, go_sem, f0, f1, f2, f3, evV_bad]) rfl ⟨by rw [HBAD.out], ?_⟩
                      exact ((((hb.trans (hWW.mono hb.size)).setCell (by simp) _).setCell (by simp) _).setCell (by simp) _).setCell (by simp) _
                    · have hb1 : decide ((k : Int) ≤ e.b) = false := decide_eq_false b1
                      simp only [hb1]
                      have HON := hidE (HOK.out (by omega) (by omega) (by omega) (by omega))
                      refine wpAnyH_take (i := 33) (oi := ?oi243) (v := ?v243) ?hi243 (by kernel_rfl) (by kernel_rfl) (by kernel_rfl) (fun _ _ _ h => h) (Or.inl ⟨?wd243, ?hy243⟩) hHeld ?rest243
                      case hi243 => (simp only [List.getElem?_toArray, List.getElem?_cons_succ, List.getElem?_cons_zero]; rfl)
                      case wd243 => rfl
                      case hy243 => (intro w hSw; (try dsimp only at hSw); go_simp; try with_reducible rfl)
                      (try simp only [Act.put, List.setIfInBounds_toArray, List.set_cons_zero, List.set_cons_succ])
                      refine wpAnyH_done (by kernel_rfl) ?_ _
                      refine NoPanic.normal ?_
                      go_wp2_with fail
                      go_roundw
                      case rel => (refine ⟨k + 1, by omega, by go_num, HON.out, HBX.out.bel ?_, ?_⟩ <;> (repeat (first | exact hb | exact Below.refl _ _ | (refine Below.alloc ?_ (by first | (simp; done) | (simp; omega) | omega) _) | (refine Below.drew ?_) | (refine Below.setCell ?_ (by simp) _))))
                      case measure => (simp [intOf]; omega)
            case step179 =>
              go_simp
              (go_at_call 136; refine (l2Ariths_any _).mono ?_; rintro e' w' ⟨rfl, rfl⟩)
              (try go_wp2_with fail)
              refine hK.out _ _ ?hS244 (fun hHeld' => ?rest244)
              case hS244 => ((try dsimp only); (go_split_ands; refine ⟨?_, ?_, ?_, ?_, ?_, ?_, ?_, ?_⟩ <;> (simp [go_sem]; done)))
              clear hK K
              (try simp only [Act.put, List.setIfInBounds_toArray, List.set_cons_zero, List.set_cons_succ])
              clear hHeld
              have hHeld := hHeld'
              clear hHeld'
              refine wpAnyH_ready (rs := [7]) (by kernel_rfl) (by simp) ?_
              refine AllReadyH.cons (o := ?o245) ?ho245 (fun K hK => ?step245) AllReadyH.nil
              case ho245 => (simp only [List.getElem?_toArray, List.getElem?_cons_succ, List.getElem?_cons_zero]; rfl)
              go_simp
              refine hK.out _ _ ?hS246 (fun hHeld' => ?rest246)
              case hS246 => ((try dsimp only); (go_split_ands; refine ⟨?_, ?_, ?_, ?_, ?_, ?_, ?_, ?_⟩ <;> (simp [go_sem]; done)))
              clear hK K
              (try simp only [Act.put, List.setIfInBounds_toArray, List.set_cons_zero, List.set_cons_succ])
              clear hHeld
              have hHeld := hHeld'
              clear hHeld'
              refine wpAnyH_ready (rs := [9]) (by kernel_rfl) (by simp) ?_
              refine AllReadyH.cons (o := ?o247) ?ho247 (fun K hK => ?step247) AllReadyH.nil
              case ho247 => (simp only [List.getElem?_toArray, List.getElem?_cons_succ, List.getElem?_cons_zero]; rfl)
              go_simp
              (go_at_call 135; refine (hIs.out _ _ ?_).mono ?_; (first | exact ar_new _ _ _ (by simp) | exact ar_old _ _ _ _ (by simp)); rintro e' w' ⟨rfl, rfl⟩)
              (try go_wp2_with fail)
              refine hK.out _ _ ?hS248 (fun hHeld' => ?rest248)
              case hS248 => ((try dsimp only); (go_split_ands; refine ⟨?_, ?_, ?_, ?_, ?_, ?_, ?_, ?_⟩ <;> (simp [go_sem]; done)))
              clear hK K
              (try simp only [Act.put, List.setIfInBounds_toArray, List.set_cons_zero, List.set_cons_succ])
              clear hHeld
              have hHeld := hHeld'
              clear hHeld'
              refine wpAnyH_take (i := 10) (oi := ?oi249) (v := ?v249) ?hi249 (by kernel_rfl) (by kernel_rfl) (by kernel_rfl) (fun _ _ _ h => h) (Or.inl ⟨?wd249, ?hy249⟩) hHeld ?rest249
              case hi249 => (simp only [List.getElem?_toArray, List.getElem?_cons_succ, List.getElem?_cons_zero]; rfl)
              case wd249 => rfl
              case hy249 => (intro w hSw; (try dsimp only at hSw); go_simp; try with_reducible rfl)
              (try simp only [Act.put, List.setIfInBounds_toArray, List.set_cons_zero, List.set_cons_succ])
              refine wpAnyH_take (i := 11) (oi := ?oi250) (v := ?v250) ?hi250 (by kernel_rfl) (by kernel_rfl) (by kernel_rfl) (fun _ _ _ h => h) (Or.inl ⟨?wd250, ?hy250⟩) hHeld ?rest250
              case hi250 => (simp only [List.getElem?_toArray, List.getElem?_cons_succ, List.getElem?_cons_zero]; rfl)
              case wd250 => rfl
              case hy250 => (intro w hSw; (try dsimp only at hSw); go_simp; try with_reducible rfl)
              (try simp only [Act.put, List.setIfInBounds_toArray, List.set_cons_zero, List.set_cons_succ])
              refine wpAnyH_take (i := 12) (oi := ?oi251) (v := ?v251) ?hi251 (by kernel_rfl) (by kernel_rfl) (by kernel_rfl) (fun _ _ _ h => h) (Or.inl ⟨?wd251, ?hy251⟩) hHeld ?rest251
              case hi251 => (simp only [List.getElem?_toArray, List.getElem?_cons_succ, List.getElem?_cons_zero]; rfl)
              case wd251 => rfl
              case hy251 => (intro w hSw; (try dsimp only at hSw); go_simp; try with_reducible rfl)
              (try simp only [Act.put, List.setIfInBounds_toArray, List.set_cons_zero, List.set_cons_succ])
              refine wpAnyH_take (i := 13) (oi := ?oi252) (v := ?v252) ?hi252 (by kernel_rfl) (by kernel_rfl) (by kernel_rfl) (fun _ _ _ h => h) (Or.inl ⟨?wd252, ?hy252⟩) hHeld ?rest252
              case hi252 => (simp only [List.getElem?_toArray, List.getElem?_cons_succ, List.getElem?_cons_zero]; rfl)
              case wd252 => rfl
              case hy252 => (intro w hSw; (try dsimp only at hSw); go_simp; try with_reducible rfl)
              (try simp only [Act.put, List.setIfInBounds_toArray, List.set_cons_zero, List.set_cons_succ])
              refine wpAnyH_take (i := 14) (oi := ?oi253) (v := ?v253) ?hi253 (by kernel_rfl) (by kernel_rfl) (by kernel_rfl) (fun _ _ _ h => h) (Or.inl ⟨?wd253, ?hy253⟩) hHeld ?rest253
              case hi253 => (simp only [List.getElem?_toArray, List.getElem?_cons_succ, List.getElem?_cons_zero]; rfl)
              case wd253 => rfl
              case hy253 => (intro w hSw; (try dsimp only at hSw); go_simp; try with_reducible rfl)
              (try simp only [Act.put, List.setIfInBounds_toArray, List.set_cons_zero, List.set_cons_succ])
              refine wpAnyH_take (i := 15) (oi := ?oi254) (v := ?v254) ?hi254 (by kernel_rfl) (by kernel_rfl) (by kernel_rfl) (fun _ _ _ h => h) (Or.inl ⟨?wd254, ?hy254⟩) hHeld ?rest254
              case hi254 => (simp only [List.getElem?_toArray, List.getElem?_cons_succ, List.getElem?_cons_zero]; rfl)
              case wd254 => rfl
              case hy254 => (intro w hSw; (try dsimp only at hSw); go_simp; try with_reducible rfl)
              (try simp only [Act.put, List.setIfInBounds_toArray, List.set_cons_zero, List.set_cons_succ])
              refine wpAnyH_take (i := 16) (oi := ?oi255) (v := ?v255) ?hi255 (by kernel_rfl) (by kernel_rfl) (by kernel_rfl) (fun _ _ _ h => h) (Or.inl ⟨?wd255, ?hy255⟩) hHeld ?rest255
              case hi255 => (simp only [List.getElem?_toArray, List.getElem?_cons_succ, List.getElem?_cons_zero]; rfl)
              case wd255 => rfl
              case hy255 => (intro w hSw; (try dsimp only at hSw); go_simp; try with_reducible rfl)
              (try simp only [Act.put, List.setIfInBounds_toArray, List.set_cons_zero, List.set_cons_succ])
              by_cases a0 : e.a < 0
              · have ha0 : decide (e.a < 0) = true := decide_eq_true a0
                simp only [ha0]
                have HBAD := hidE (HB0.out a0)
                clear a0
                refine wpAnyH_take (i := 17) (oi := ?oi256) (v := undef) ?hi256 (by kernel_rfl) (by kernel_rfl) (by kernel_rfl) (fun _ _ _ h => h) (Or.inr ⟨?wd256, rfl⟩) hHeld ?rest256
                case hi256 => (simp only [List.getElem?_toArray, List.getElem?_cons_succ, List.getElem?_cons_zero]; rfl)
                case wd256 => rfl
                (try simp only [Act.put, List.setIfInBounds_toArray, List.set_cons_zero, List.set_cons_succ])
                refine wpAnyH_take (i := 18) (oi := ?oi257) (v := undef) ?hi257 (by kernel_rfl) (by kernel_rfl) (by kernel_rfl) (fun _ _ _ h => h) (Or.inr ⟨?wd257, rfl⟩) hHeld ?rest257
                case hi257 => (simp only [List.getElem?_toArray, List.getElem?_cons_succ, List.getElem?_cons_zero]; rfl)
                case wd257 => rfl
                (try simp only [Act.put, List.setIfInBounds_toArray, List.set_cons_zero, List.set_cons_succ])
                refine wpAnyH_take (i := 19) (oi := ?oi258) (v := undef) ?hi258 (by kernel_rfl) (by kernel_rfl) (by kernel_rfl) (fun _ _ _ h => h) (Or.inr ⟨?wd258, rfl⟩) hHeld ?rest258
                case hi258 => (simp only [List.getElem?_toArray, List.getElem?_cons_succ, List.getElem?_cons_zero]; rfl)
                case wd258 => rfl
                (try simp only [Act.put, List.setIfInBounds_toArray, List.set_cons_zero, List.set_cons_succ])
                refine wpAnyH_take (i := 20) (oi := ?oi259) (v := undef) ?hi259 (by kernel_rfl) (by kernel_rfl) (by kernel_rfl) (fun _ _ _ h => h) (Or.inr ⟨?wd259, rfl⟩) hHeld ?rest259
                case hi259 => (simp only [List.getElem?_toArray, List.getElem?_cons_succ, List.getElem?_cons_zero]; rfl)
                case wd259 => rfl
                (try simp only [Act.put, List.setIfInBounds_toArray, List.set_cons_zero, List.set_cons_succ])
                refine wpAnyH_take (i := 21) (oi := ?oi260) (v := ?v260) ?hi260 (by kernel_rfl) (by kernel_rfl) (by kernel_rfl) (fun _ _ _ h => h) (Or.inl ⟨?wd260, ?hy260⟩) hHeld ?rest260
                case hi260 => (simp only [List.getElem?_toArray, List.getElem?_cons_succ, List.getElem?_cons_zero]; rfl)
                case wd260 => rfl
                case hy260 => (intro w hSw; (try dsimp only at hSw); go_simp; try with_reducible rfl)
                (try simp only [Act.put, List.setIfInBounds_toArray, List.set_cons_zero, List.set_cons_succ])
                refine wpAnyH_take (i := 22) (oi := ?oi261) (v := ?v261) ?hi261 (by kernel_rfl) (by kernel_rfl) (by kernel_rfl) (fun _ _ _ h => h) (Or.inl ⟨?wd261, ?hy261⟩) hHeld ?rest261
                case hi261 => (simp only [List.getElem?_toArray, List.getElem?_cons_succ, List.getElem?_cons_zero]; rfl)
                case wd261 => rfl
                case hy261 => (intro w hSw; (try dsimp only at hSw); go_simp; try with_reducible rfl)
                (try simp only [Act.put, List.setIfInBounds_toArray, List.set_cons_zero, List.set_cons_succ])
                refine wpAnyH_take (i := 23) (oi := ?oi262) (v := undef) ?hi262 (by kernel_rfl) (by kernel_rfl) (by kernel_rfl) (fun _ _ _ h => h) (Or.inr ⟨?wd262, rfl⟩) hHeld ?rest262
                case hi262 => (simp only [List.getElem?_toArray, List.getElem?_cons_succ, List.getElem?_cons_zero]; rfl)
                case wd262 => rfl
                (try simp only [Act.put, List.setIfInBounds_toArray, List.set_cons_zero, List.set_cons_succ])
                refine wpAnyH_take (i := 24) (oi := ?oi263) (v := undef) ?hi263 (by kernel_rfl) (by kernel_rfl) (by kernel_rfl) (fun _ _ _ h => h) (Or.inr ⟨?wd263, rfl⟩) hHeld ?rest263
                case hi263 => (simp only [List.getElem?_toArray, List.getElem?_cons_succ, List.getElem?_cons_zero]; rfl)
                case wd263 => rfl
                (try simp only [Act.put, List.setIfInBounds_toArray, List.set_cons_zero, List.set_cons_succ])
                refine wpAnyH_take (i := 25) (oi := ?oi264) (v := undef) ?hi264 (by kernel_rfl) (by kernel_rfl) (by kernel_rfl) (fun _ _ _ h => h) (Or.inr ⟨?wd264, rfl⟩) hHeld ?rest264
                case hi264 => (simp only [List.getElem?_toArray, List.getElem?_cons_succ, List.getElem?_cons_zero]; rfl)
                case wd264 => rfl
                (try simp only [Act.put, List.setIfInBounds_toArray, List.set_cons_zero, List.set_cons_succ])
                refine wpAnyH_take (i := 26) (oi := ?oi265) (v := ?v265) ?hi265 (by kernel_rfl) (by kernel_rfl) (by kernel_rfl) (fun _ _ _ h => h) (Or.inl ⟨?wd265, ?hy265⟩) hHeld ?rest265
                case hi265 => (simp only [List.getElem?_toArray, List.getElem?_cons_succ, List.getElem?_cons_zero]; rfl)
                case wd265 => rfl
                case hy265 => (intro w hSw; (try dsimp only at hSw); go_simp; try with_reducible rfl)
                (try simp only [Act.put, List.setIfInBounds_toArray, List.set_cons_zero, List.set_cons_succ])
                refine wpAnyH_take (i := 27) (oi := ?oi266) (v := ?v266) ?hi266 (by kernel_rfl) (by kernel_rfl) (by kernel_rfl) (fun _ _ _ h => h) (Or.inl ⟨?wd266, ?hy266⟩) hHeld ?rest266
                case hi266 => (simp only [List.getElem?_toArray, List.getElem?_cons_succ, List.getElem?_cons_zero]; rfl)
                case wd266 => rfl
                case hy266 => (intro w hSw; (try dsimp only at hSw); go_simp; try with_reducible rfl)
                (try simp only [Act.put, List.setIfInBounds_toArray, List.set_cons_zero, List.set_cons_succ])
                refine wpAnyH_take (i := 28) (oi := ?oi267) (v := undef) ?hi267 (by kernel_rfl) (by kernel_rfl) (by kernel_rfl) (fun _ _ _ h => h) (Or.inr ⟨?wd267, rfl⟩) hHeld ?rest267
                case hi267 => (simp only [List.getElem?_toArray, List.getElem?_cons_succ, List.getElem?_cons_zero]; rfl)
                case wd267 => rfl
                (try simp only [Act.put, List.setIfInBounds_toArray, List.set_cons_zero, List.set_cons_succ])
                refine wpAnyH_take (i := 29) (oi := ?oi268) (v := undef) ?hi268 (by kernel_rfl) (by kernel_rfl) (by kernel_rfl) (fun _ _ _ h => h) (Or.inr ⟨?wd268, rfl⟩) hHeld ?rest268
                case hi268 => (simp only [List.getElem?_toArray, List.getElem?_cons_succ, List.getElem?_cons_zero]; rfl)
                case wd268 => rfl
                (try simp only [Act.put, List.setIfInBounds_toArray, List.set_cons_zero, List.set_cons_succ])
                refine wpAnyH_take (i := 30) (oi := ?oi269) (v := undef) ?hi269 (by kernel_rfl) (by kernel_rfl) (by kernel_rfl) (fun _ _ _ h => h) (Or.inr ⟨?wd269, rfl⟩) hHeld ?rest269
                case hi269 => (simp only [List.getElem?_toArray, List.getElem?_cons_succ, List.getElem?_cons_zero]; rfl)
                case wd269 => rfl
                (try simp only [Act.put, List.setIfInBounds_toArray, List.set_cons_zero, List.set_cons_succ])
                refine wpAnyH_take (i := 31) (oi := ?oi270) (v := undef) ?hi270 (by kernel_rfl) (by kernel_rfl) (by kernel_rfl) (fun _ _ _ h => h) (Or.inr ⟨?wd270, rfl⟩) hHeld ?rest270
                case hi270 => (simp only [List.getElem?_toArray, List.getElem?_cons_succ, List.getElem?_cons_zero]; rfl)
                case wd270 => rfl
                (try simp only [Act.put, List.setIfInBounds_toArray, List.set_cons_zero, List.set_cons_succ])
                refine wpAnyH_take (i := 32) (oi := ?oi271) (v := ?v271) ?hi271 (by kernel_rfl) (by kernel_rfl) (by kernel_rfl) (fun _ _ _ h => h) (Or.inl ⟨?wd271, ?hy271⟩) hHeld ?rest271
                case hi271 => (simp only [List.getElem?_toArray, List.getElem?_cons_succ, List.getElem?_cons_zero]; rfl)
                case wd271 => rfl
                case hy271 => (intro w hSw; (try dsimp only at hSw); go_simp; try with_reducible rfl)
                (try simp only [Act.put, List.setIfInBounds_toArray, List.set_cons_zero, List.set_cons_succ])
                refine wpAnyH_take (i := 33) (oi := ?oi272) (v := ?v272) ?hi272 (by kernel_rfl) (by kernel_rfl) (by kernel_rfl) (fun _ _ _ h => h) (Or.inl ⟨?wd272, ?hy272⟩) hHeld ?rest272
                case hi272 => (simp only [List.getElem?_toArray, List.getElem?_cons_succ, List.getElem?_cons_zero]; rfl)
                case wd272 => rfl
                case hy272 => (intro w hSw; (try dsimp only at hSw); go_simp; try with_reducible rfl)
                (try simp only [Act.put, List.setIfInBounds_toArray, List.set_cons_zero, List.set_cons_succ])
                refine wpAnyH_done (by kernel_rfl) ?_ _
                refine NoPanic.normal ?_
                refine lift_world (wr := wr) ?_
                intro W hWW
                clear f0 f1 f2 f3 z0 z1 z2 z3 hHeld
                obtain ⟨⟨f0, f1, f2, f3⟩, ⟨z0, z1, z2, z3⟩, hltW⟩ := (HBX.out.bel hWW).facts
                go_wp2_with fail
                refine bodyPost_ret (v := evV (evBad 1)) (by simp [results, Try.results75, go_sem, f0, f1, f2, f3, evV_bad]) rfl ⟨by rw [HBAD.out], ?_⟩
                exact ((((hb.trans (hWW.mono hb.size)).setCell (by simp) _).setCell (by simp) _).setCell (by simp) _).setCell (by simp) _
              · have ha0 : decide (e.a < 0) = false := decide_eq_false a0
                simp only [ha0]
                refine wpAnyH_take (i := 17) (oi := ?oi273) (v := ?v273) ?hi273 (by kernel_rfl) (by kernel_rfl) (by kernel_rfl) (fun _ _ _ h => h) (Or.inl ⟨?wd273, ?hy273⟩) hHeld ?rest273
                case hi273 => (simp only [List.getElem?_toArray, List.getElem?_cons_succ, List.getElem?_cons_zero]; rfl)
                case wd273 => rfl
                case hy273 => (intro w hSw; (try dsimp only at hSw); go_simp; try with_reducible rfl)
                (try simp only [Act.put, List.setIfInBounds_toArray, List.set_cons_zero, List.set_cons_succ])
                refine wpAnyH_take (i := 18) (oi := ?oi274) (v := ?v274) ?hi274 (by kernel_rfl) (by kernel_rfl) (by kernel_rfl) (fun _ _ _ h => h) (Or.inl ⟨?wd274, ?hy274⟩) hHeld ?rest274
                case hi274 => (simp only [List.getElem?_toArray, List.getElem?_cons_succ, List.getElem?_cons_zero]; rfl)
                case wd274 => rfl
                case hy274 => (intro w hSw; (try dsimp only at hSw); go_simp; try with_reducible rfl)
                (try simp only [Act.put, List.setIfInBounds_toArray, List.set_cons_zero, List.set_cons_succ])
                refine wpAnyH_take (i := 19) (oi := ?oi275) (v := ?v275) ?hi275 (by kernel_rfl) (by kernel_rfl) (by kernel_rfl) (fun _ _ _ h => h) (Or.inl ⟨?wd275, ?hy275⟩) hHeld ?rest275
                case hi275 => (simp only [List.getElem?_toArray, List.getElem?_cons_succ, List.getElem?_cons_zero]; rfl)
                case wd275 => rfl
                case hy275 => (intro w hSw; (try dsimp only at hSw); go_simp; try with_reducible rfl)
                (try simp only [Act.put, List.setIfInBounds_toArray, List.set_cons_zero, List.set_cons_succ])
                refine wpAnyH_take (i := 20) (oi := ?oi276) (v := ?v276) ?hi276 (by kernel_rfl) (by kernel_rfl) (by kernel_rfl) (fun _ _ _ h => h) (Or.inl ⟨?wd276, ?hy276⟩) hHeld ?rest276
                case hi276 => (simp only [List.getElem?_toArray, List.getElem?_cons_succ, List.getElem?_cons_zero]; rfl)
                case wd276 => rfl
                case hy276 => (intro w hSw; (try dsimp only at hSw); go_simp; try with_reducible rfl)
                (try simp only [Act.put, List.setIfInBounds_toArray, List.set_cons_zero, List.set_cons_succ])
                refine wpAnyH_take (i := 21) (oi := ?oi277) (v := ?v277) ?hi277 (by kernel_rfl) (by kernel_rfl) (by kernel_rfl) (fun _ _ _ h => h) (Or.inl ⟨?wd277, ?hy277⟩) hHeld ?rest277
                case hi277 => (simp only [List.getElem?_toArray, List.getElem?_cons_succ, List.getElem?_cons_zero]; rfl)
                case wd277 => rfl
                case hy277 => (intro w hSw; (try dsimp only at hSw); go_simp; try with_reducible rfl)
                (try simp only [Act.put, List.setIfInBounds_toArray, List.set_cons_zero, List.set_cons_succ])
                refine wpAnyH_take (i := 22) (oi := ?oi278) (v := ?v278) ?hi278 (by kernel_rfl) (by kernel_rfl) (by kernel_rfl) (fun _ _ _ h => h) (Or.inl ⟨?wd278, ?hy278⟩) hHeld ?rest278
                case hi278 => (simp only [List.getElem?_toArray, List.getElem?_cons_succ, List.getElem?_cons_zero]; rfl)
                case wd278 => rfl
                case hy278 => (intro w hSw; (try dsimp only at hSw); go_simp; try with_reducible rfl)
                (try simp only [Act.put, List.setIfInBounds_toArray, List.set_cons_zero, List.set_cons_succ])
                by_cases a1 : (k : Int) ≤ e.a
                · have ha1 : decide ((k : Int) ≤ e.a) = true := decide_eq_true a1
                  simp only [ha1]
                  have HBAD := hidE (HB1.out a1)
                  clear a1
                  refine wpAnyH_take (i := 23) (oi := ?oi279) (v := undef) ?hi279 (by kernel_rfl) (by kernel_rfl) (by kernel_rfl) (fun _ _ _ h => h) (Or.inr ⟨?wd279, rfl⟩) hHeld ?rest279
                  case hi279 => (simp only [List.getElem?_toArray, List.getElem?_cons_succ, List.getElem?_cons_zero]; rfl)
                  case wd279 => rfl
                  (try simp only [Act.put, List.setIfInBounds_toArray, List.set_cons_zero, List.set_cons_succ])
                  refine wpAnyH_take (i := 24) (oi := ?oi280) (v := undef) ?hi280 (by kernel_rfl) (by kernel_rfl) (by kernel_rfl) (fun _ _ _ h => h) (Or.inr ⟨?wd280, rfl⟩) hHeld ?rest280
                  case hi280 => (simp only [List.getElem?_toArray, List.getElem?_cons_succ, List.getElem?_cons_zero]; rfl)
                  case wd280 => rfl
                  (try simp only [Act.put, List.setIfInBounds_toArray, List.set_cons_zero, List.set_cons_succ])
                  refine wpAnyH_take (i := 25) (oi := ?oi281) (v := undef) ?hi281 (by kernel_rfl) (by kernel_rfl) (by kernel_rfl) (fun _ _ _ h => h) (Or.inr ⟨?wd281, rfl⟩) hHeld ?rest281
                  case hi281 => (simp only [List.getElem?_toArray, List.getElem?_cons_succ, List.getElem?_cons_zero]; rfl)
                  case wd281 => rfl
                  (try simp only [Act.put, List.setIfInBounds_toArray, List.set_cons_zero, List.set_cons_succ])
                  refine wpAnyH_take (i := 26) (oi := ?oi282) (v := ?v282) ?hi282 (by kernel_rfl) (by kernel_rfl) (by kernel_rfl) (fun _ _ _ h => h) (Or.inl ⟨?wd282, ?hy282⟩) hHeld ?rest282
                  case hi282 => (simp only [List.getElem?_toArray, List.getElem?_cons_succ, List.getElem?_cons_zero]; rfl)
                  case wd282 => rfl
                  case hy282 => (intro w hSw; (try dsimp only at hSw); go_simp; try with_reducible rfl)
                  (try simp only [Act.put, List.setIfInBounds_toArray, List.set_cons_zero, List.set_cons_succ])
                  refine wpAnyH_take (i := 27) (oi := ?oi283) (v := ?v283) ?hi283 (by kernel_rfl) (by kernel_rfl) (by kernel_rfl) (fun _ _ _ h => h) (Or.inl ⟨?wd283, ?hy283⟩) hHeld ?rest283
                  case hi283 => (simp only [List.getElem?_toArray, List.getElem?_cons_succ, List.getElem?_cons_zero]; rfl)
                  case wd283 => rfl
                  case hy283 => (intro w hSw; (try dsimp only at hSw); go_simp; try with_reducible rfl)
                  (try simp only [Act.put, List.setIfInBounds_toArray, List.set_cons_zero, List.set_cons_succ])
                  refine wpAnyH_take (i := 28) (oi := ?oi284) (v := undef) ?hi284 (by kernel_rfl) (by kernel_rfl) (by kernel_rfl) (fun _ _ _ h => h) (Or.inr ⟨?wd284, rfl⟩) hHeld ?rest284
                  case hi284 => (simp only [List.getElem?_toArray, List.getElem?_cons_succ, List.getElem?_cons_zero]; rfl)
                  case wd284 => rfl
                  (try simp only [Act.put, List.setIfInBounds_toArray, List.set_cons_zero, List.set_cons_succ])
                  refine wpAnyH_take (i := 29) (oi := ?oi285) (v := undef) ?hi285 (by kernel_rfl) (by kernel_rfl) (by kernel_rfl) (fun _ _ _ h => h) (Or.inr ⟨?wd285, rfl⟩) hHeld ?rest285
                  case hi285 => (simp only [List.getElem?_toArray, List.getElem?_cons_succ, List.getElem?_cons_zero]; rfl)
                  case wd285 => rfl
                  (try simp only [Act.put, List.setIfInBounds_toArray, List.set_cons_zero, List.set_cons_succ])
                  refine wpAnyH_take (i := 30) (oi := ?oi286) (v := undef) ?hi286 (by kernel_rfl) (by kernel_rfl) (by kernel_rfl) (fun _ _ _ h => h) (Or.inr ⟨?wd286, rfl⟩) hHeld ?rest286
                  case hi286 => (simp only [List.getElem?_toArray, List.getElem?_cons_succ, List.getElem?_cons_zero]; rfl)
                  case wd286 => rfl
                  (try simp only [Act.put, List.setIfInBounds_toArray, List.set_cons_zero, List.set_cons_succ])
                  refine wpAnyH_take (i := 31) (oi := ?oi287) (v := undef) ?hi287 (by kernel_rfl) (by kernel_rfl) (by kernel_rfl) (fun _ _ _ h => h) (Or.inr ⟨?wd287, rfl⟩) hHeld ?rest287
                  case hi287 => (simp only [List.getElem?_toArray, List.getElem?_cons_succ, List.getElem?_cons_zero]; rfl)
                  case wd287 => rfl
                  (try simp only [Act.put, List.setIfInBounds_toArray, List.set_cons_zero, List.set_cons_succ])
                  refine wpAnyH_take (i := 32) (oi := ?oi288) (v := ?v288) ?hi288 (by kernel_rfl) (by kernel_rfl) (by kernel_rfl) (fun _ _ _ h => h) (Or.inl ⟨?wd288, ?hy288⟩) hHeld ?rest288
                  case hi288 => (simp only [List.getElem?_toArray, List.getElem?_cons_succ, List.getElem?_cons_zero]; rfl)
                  case wd288 => rfl
                  case hy288 => (intro w hSw; (try dsimp only at hSw); go_simp; try with_reducible rfl)
                  (try simp only [Act.put, List.setIfInBounds_toArray, List.set_cons_zero, List.set_cons_succ])
                  refine wpAnyH_take (i := 33) (oi := ?oi289) (v := ?v289) ?hi289 (by kernel_rfl) (by kernel_rfl) (by kernel_rfl) (fun _ _ _ h => h) (Or.inl ⟨?wd289, ?hy289⟩) hHeld ?rest289
                  case hi289 => (simp only [List.getElem?_toArray, List.getElem?_cons_succ, List.getElem?_cons_zero]; rfl)
                  case wd289 => rfl
                  case hy289 => (intro w hSw; (try dsimp only at hSw); go_simp; try with_reducible rfl)
                  (try simp only [Act.put, List.setIfInBounds_toArray, List.set_cons_zero, List.set_cons_succ])
                  refine wpAnyH_done (by kernel_rfl) ?_ _
                  refine NoPanic.normal ?_
                  refine lift_world (wr := wr) ?_
                  intro W hWW
                  clear f0 f1 f2 f3 z0 z1 z2 z3 hHeld
                  obtain ⟨⟨f0, f1, f2, f3⟩, ⟨z0, z1, z2, z3⟩, hltW⟩ := (HBX.out.bel hWW).facts
                  go_wp2_with fail
                  refine bodyPost_ret (v := evV (evBad 1)) (by simp [results, Try.results75, go_sem, f0, f1, f2, f3, evV_bad]) rfl ⟨by rw [HBAD.out], ?_⟩
                  exact ((((hb.trans (hWW.mono hb.size)).setCell (by simp) _).setCell (by simp) _).setCell (by simp) _).setCell (by simp) _
                · have ha1 : decide ((k : Int) ≤ e.a) = false := decide_eq_false a1
                  simp only [ha1]
                  refine wpAnyH_take (i := 23) (oi := ?oi290) (v := ?v290) ?hi290 (by kernel_rfl) (by kernel_rfl) (by kernel_rfl) (fun _ _ _ h => h) (Or.inl ⟨?wd290, ?hy290⟩) hHeld ?rest290
                  case hi290 => (simp only [List.getElem?_toArray, List.getElem?_cons_succ, List.getElem?_cons_zero]; rfl)
                  case wd290 => rfl
                  case hy290 => (intro w hSw; (try dsimp only at hSw); go_simp; try with_reducible rfl)
                  (try simp only [Act.put, List.setIfInBounds_toArray, List.set_cons_zero, List.set_cons_succ])
                  refine wpAnyH_take (i := 24) (oi := ?oi291) (v := ?v291) ?hi291 (by kernel_rfl) (by kernel_rfl) (by kernel_rfl) (fun _ _ _ h => h) (Or.inl ⟨?wd291, ?hy291⟩) hHeld ?rest291
                  case hi291 => (simp only [List.getElem?_toArray, List.getElem?_cons_succ, List.getElem?_cons_zero]; rfl)
                  case wd291 => rfl
                  case hy291 => (intro w hSw; (try dsimp only at hSw); go_simp; try with_reducible rfl)
                  (try simp only [Act.put, List.setIfInBounds_toArray, List.set_cons_zero, List.set_cons_succ])
                  refine wpAnyH_take (i := 25) (oi := ?oi292) (v := ?v292) ?hi292 (by kernel_rfl) (by kernel_rfl) (by kernel_rfl) (fun _ _ _ h => h) (Or.inl ⟨?wd292, ?hy292⟩) hHeld ?rest292
                  case hi292 => (simp only [List.getElem?_toArray, List.getElem?_cons_succ, List.getElem?_cons_zero]; rfl)
                  case wd292 => rfl
                  case hy292 => (intro w hSw; (try dsimp only at hSw); go_simp; try with_reducible rfl)
                  (try simp only [Act.put, List.setIfInBounds_toArray, List.set_cons_zero, List.set_cons_succ])
                  refine wpAnyH_take (i := 26) (oi := ?oi293) (v := ?v293) ?hi293 (by kernel_rfl) (by kernel_rfl) (by kernel_rfl) (fun _ _ _ h => h) (Or.inl ⟨?wd293, ?hy293⟩) hHeld ?rest293
                  case hi293 => (simp only [List.getElem?_toArray, List.getElem?_cons_succ, List.getElem?_cons_zero]; rfl)
                  case wd293 => rfl
                  case hy293 => (intro w hSw; (try dsimp only at hSw); go_simp; try with_reducible rfl)
                  (try simp only [Act.put, List.setIfInBounds_toArray, List.set_cons_zero, List.set_cons_succ])
                  refine wpAnyH_take (i := 27) (oi := ?oi294) (v := ?v294) ?hi294 (by kernel_rfl) (by kernel_rfl) (by kernel_rfl) (fun _ _ _ h => h) (Or.inl ⟨?wd294, ?hy294⟩) hHeld ?rest294
                  case hi294 => (simp only [List.getElem?_toArray, List.getElem?_cons_succ, List.getElem?_cons_zero]; rfl)
                  case wd294 => rfl
                  case hy294 => (intro w hSw; (try dsimp only at hSw); go_simp; try with_reducible rfl)
                  (try simp only [Act.put, List.setIfInBounds_toArray, List.set_cons_zero, List.set_cons_succ])
                  by_cases b0 : e.b < 0
                  · have hb0 : decide (e.b < 0) = true := decide_eq_true b0
                    simp only [hb0]
                    have HBAD := hidE (HB2.out b0)
                    clear b0
                    refine wpAnyH_take (i := 28) (oi := ?oi295) (v := undef) ?hi295 (by kernel_rfl) (by kernel_rfl) (by kernel_rfl) (fun _ _ _ h => h) (Or.inr ⟨?wd295, rfl⟩) hHeld ?rest295
                    case hi295 => (simp only [List.getElem?_toArray, List.getElem?_cons_succ, List.getElem?_cons_zero]; rfl)
                    case wd295 => rfl
                    (try simp only [Act.put, List.setIfInBounds_toArray, List.set_cons_zero, List.set_cons_succ])
                    refine wpAnyH_take (i := 29) (oi := ?oi296) (v := undef) ?hi296 (by kernel_rfl) (by kernel_rfl) (by kernel_rfl) (fun _ _ _ h => h) (Or.inr ⟨?wd296, rfl⟩) hHeld ?rest296
                    case hi296 => (simp only [List.getElem?_toArray, List.getElem?_cons_succ, List.getElem?_cons_zero]; rfl)
                    case wd296 => rfl
                    (try simp only [Act.put, List.setIfInBounds_toArray, List.set_cons_zero, List.set_cons_succ])
                    refine wpAnyH_take (i := 30) (oi := ?oi297) (v := undef) ?hi297 (by kernel_rfl) (by kernel_rfl) (by kernel_rfl) (fun _ _ _ h => h) (Or.inr ⟨?wd297, rfl⟩) hHeld ?rest297
                    case hi297 => (simp only [List.getElem?_toArray, List.getElem?_cons_succ, List.getElem?_cons_zero]; rfl)
                    case wd297 => rfl
                    (try simp only [Act.put, List.setIfInBounds_toArray, List.set_cons_zero, List.set_cons_succ])
                    refine wpAnyH_take (i := 31) (oi := ?oi298) (v := undef) ?hi298 (by kernel_rfl) (by kernel_rfl) (by kernel_rfl) (fun _ _ _ h => h) (Or.inr ⟨?wd298, rfl⟩) hHeld ?rest298
                    case hi298 => (simp only [List.getElem?_toArray, List.getElem?_cons_succ, List.getElem?_cons_zero]; rfl)
                    case wd298 => rfl
                    (try simp only [Act.put, List.setIfInBounds_toArray, List.set_cons_zero, List.set_cons_succ])
                    refine wpAnyH_take (i := 32) (oi := ?oi299) (v := ?v299) ?hi299 (by kernel_rfl) (by kernel_rfl) (by kernel_rfl) (fun _ _ _ h => h) (Or.inl ⟨?wd299, ?hy299⟩) hHeld ?rest299
                    case hi299 => (simp only [List.getElem?_toArray, List.getElem?_cons_succ, List.getElem?_cons_zero]; rfl)
                    case wd299 => rfl
                    case hy299 => (intro w hSw; (try dsimp only at hSw); go_simp; try with_reducible rfl)
                    (try simp only [Act.put, List.setIfInBounds_toArray, List.set_cons_zero, List.set_cons_succ])
                    refine wpAnyH_take (i := 33) (oi := ?oi300) (v := ?v300) ?hi300 (by kernel_rfl) (by kernel_rfl) (by kernel_rfl) (fun _ _ _ h => h) (Or.inl ⟨?wd300, ?hy300⟩) hHeld ?rest300
                    case hi300 => (simp only [List.getElem?_toArray, List.getElem?_cons_succ, List.getElem?_cons_zero]; rfl)
                    case wd300 => rfl
                    case hy300 => (intro w hSw; (try dsimp only at hSw); go_simp; try with_reducible rfl)
                    (try simp only [Act.put, List.setIfInBounds_toArray, List.set_cons_zero, List.set_cons_succ])
                    refine wpAnyH_done (by kernel_rfl) ?_ _
                    refine NoPanic.normal ?_
                    refine lift_world (wr := wr) ?_
                    intro W hWW
                    clear f0 f1 f2 f3 z0 z1 z2 z3 hHeld
                    obtain ⟨⟨f0, f1, f2, f3⟩, ⟨z0, z1, z2, z3⟩, hltW⟩ := (HBX.out.bel hWW).facts
                    go_wp2_with fail
                    refine bodyPost_ret (v := evV (evBad 1)) (by simp [results, Try.results75, go_sem, f0, f1, f2, f3, evV_bad]) rfl ⟨by rw [HBAD.out], ?_⟩
                    exact ((((hb.trans (hWW.mono hb.size)).setCell (by simp) _).setCell (by simp) _).setCell (by simp) _).setCell (by simp) _
                  · have hb0 : decide (e.b < 0) = false := decide_eq_false b0
                    simp only [hb0]
                    refine wpAnyH_take (i := 28) (oi := ?oi301) (v := ?v301) ?hi301 (by kernel_rfl) (by kernel_rfl) (by kernel_rfl) (fun _ _ _ h => h) (Or.inl ⟨?wd301, ?hy301⟩) hHeld ?rest301
                    case hi301 => (simp only [List.getElem?_toArray, List.getElem?_cons_succ, List.getElem?_cons_zero]; rfl)
                    case wd301 => rfl
                    case hy301 => (intro w hSw; (try dsimp only at hSw); go_simp; try with_reducible rfl)
                    (try simp only [Act.put, List.setIfInBounds_toArray, List.set_cons_zero, List.set_cons_succ])
                    refine wpAnyH_take (i := 29) (oi := ?oi302) (v := ?v302) ?hi302 (by kernel_rfl) (by kernel_rfl) (by kernel_rfl) (fun _ _ _ h => h) (Or.inl ⟨?wd302, ?hy302⟩) hHeld ?rest302
                    case hi302 => (simp only [List.getElem?_toArray, List.getElem?_cons_succ, List.getElem?_cons_zero]; rfl)
                    case wd302 => rfl
                    case hy302 => (intro w hSw; (try dsimp only at hSw); go_simp; try with_reducible rfl)
                    (try simp only [Act.put, List.setIfInBounds_toArray, List.set_cons_zero, List.set_cons_succ])
                    refine wpAnyH_take (i := 30) (oi := ?oi303) (v := ?v303) ?hi303 (by kernel_rfl) (by kernel_rfl) (by kernel_rfl) (fun _ _ _ h => h) (Or.inl ⟨?wd303, ?hy303⟩) hHeld ?rest303
                    case hi303 => (simp only [List.getElem?_toArray, List.getElem?_cons_succ, List.getElem?_cons_zero]; rfl)
                    case wd303 => rfl
                    case hy303 => (intro w hSw; (try dsimp only at hSw); go_simp; try with_reducible rfl)
                    (try simp only [Act.put, List.setIfInBounds_toArray, List.set_cons_zero, List.set_cons_succ])
                    refine wpAnyH_take (i := 31) (oi := ?oi304) (v := ?v304) ?hi304 (by kernel_rfl) (by kernel_rfl) (by kernel_rfl) (fun _ _ _ h => h) (Or.inl ⟨?wd304, ?hy304⟩) hHeld ?rest304
                    case hi304 => (simp only [List.getElem?_toArray, List.getElem?_cons_succ, List.getElem?_cons_zero]; rfl)
                    case wd304 => rfl
                    case hy304 => (intro w hSw; (try dsimp only at hSw); go_simp; try with_reducible rfl)
                    (try simp only [Act.put, List.setIfInBounds_toArray, List.set_cons_zero, List.set_cons_succ])
                    refine wpAnyH_take (i := 32) (oi := ?oi305) (v := ?v305) ?hi305 (by kernel_rfl) (by kernel_rfl) (by kernel_rfl) (fun _ _ _ h => h) (Or.inl ⟨?wd305, ?hy305⟩) hHeld ?rest305
                    case hi305 => (simp only [List.getElem?_toArray, List.getElem?_cons_succ, List.getElem?_cons_zero]; rfl)
                    case wd305 => rfl
                    case hy305 => (intro w hSw; (try dsimp only at hSw); go_simp; try with_reducible rfl)
                    (try simp only [Act.put, List.setIfInBounds_toArray, List.set_cons_zero, List.set_cons_succ])
                    by_cases b1 : (k : Int) ≤ e.b
                    · have hb1 : decide ((k : Int) ≤ e.b) = true := decide_eq_true b1
                      simp only [hb1]
                      have HBAD := hidE (HB3.out b1)
                      clear b1
                      refine wpAnyH_take (i := 33) (oi := ?oi306) (v := ?v306) ?hi306 (by kernel_rfl) (by kernel_rfl) (by kernel_rfl) (fun _ _ _ h => h) (Or.inl ⟨?wd306, ?hy306⟩) hHeld ?rest306
                      case hi306 => (simp only [List.getElem?_toArray, List.getElem?_cons_succ, List.getElem?_cons_zero]; rfl)
                      case wd306 => rfl
                      case hy306 => (intro w hSw; (try dsimp only at hSw); go_simp; try with_reducible rfl)
                      (try simp only [Act.put, List.setIfInBounds_toArray, List.set_cons_zero, List.set_cons_succ])
                      refine wpAnyH_done (by kernel_rfl) ?_ _
                      refine NoPanic.normal ?_
                      refine lift_world (wr := wr) ?_
                      intro W hWW
                      clear f0 f1 f2 f3 z0 z1 z2 z3 hHeld
                      obtain ⟨⟨f0, f1, f2, f3⟩, ⟨z0, z1, z2, z3⟩, hltW⟩ := (HBX.out.bel hWW).facts
                      go_wp2_with fail
                      refine bodyPost_ret (v := evV (evBad 1)) (by simp [results, Try.results75, go_sem, f0, f1, f2, f3, evV_bad]) rfl ⟨by rw [HBAD.out], ?_⟩
                      exact ((((hb.trans (hWW.mono hb.size)).setCell (by simp) _).setCell (by simp) _).setCell (by simp) _).setCell (by simp) _
                    · have hb1 : decide ((k : Int) ≤ e.b) = false := decide_eq_false b1
                      simp only [hb1]
                      have HON := hidE (HOK.out (by omega) (by omega) (by omega) (by omega))
                      refine wpAnyH_take (i := 33) (oi := ?oi307) (v := ?v307) ?hi307 (by kernel_rfl) (by kernel_rfl) (by kernel_rfl) (fun _ _ _ h => h) (Or.inl ⟨?wd307, ?hy307⟩) hHeld ?rest307
                      case hi307 => (simp only [List.getElem?_toArray, List.getElem?_cons_succ, List.getElem?_cons_zero]; rfl)
                      case wd307 => rfl
                      case hy307 => (intro w hSw; (try dsimp only at hSw); go_simp; try with_reducible rfl)
                      (try simp only [Act.put, List.setIfInBounds_toArray, List.set_cons_zero, List.set_cons_succ])
                      refine wpAnyH_done (by kernel_rfl) ?_ _
                      refine NoPanic.normal ?_
                      go_wp2_with fail
                      go_roundw
                      case rel => (refine ⟨k + 1, by omega, by go_num, HON.out, HBX.out.bel ?_, ?_⟩ <;> (repeat (first | exact hb | exact Below.refl _ _ | (refine Below.alloc ?_ (by first | (simp; done) | (simp; omega) | omega) _) | (refine Below.drew ?_) | (refine Below.setCell ?_ (by simp) _))))
                      case measure => (simp [intOf]; omega)
          case step176 =>
            go_simp
            (go_at_call 136; refine (l2Ariths_any _).mono ?_; rintro e' w' ⟨rfl, rfl⟩)
            (try go_wp2_with fail)
            refine hK.out _ _ ?hS308 (fun hHeld' => ?rest308)
            case hS308 => ((try dsimp only); (go_split_ands; refine ⟨?_, ?_, ?_, ?_, ?_, ?_, ?_, ?_⟩ <;> (simp [go_sem]; done)))
            clear hK K
            (try simp only [Act.put, List.setIfInBounds_toArray, List.set_cons_zero, List.set_cons_succ])
            clear hHeld
            have hHeld := hHeld'
            clear hHeld'
            refine wpAnyH_ready (rs := [6]) (by kernel_rfl) (by simp) ?_
            refine AllReadyH.cons (o := ?o309) ?ho309 (fun K hK => ?step309) AllReadyH.nil
            case ho309 => (simp only [List.getElem?_toArray, List.getElem?_cons_succ, List.getElem?_cons_zero]; rfl)
            go_simp
            refine hK.out _ _ ?hS310 (fun hHeld' => ?rest310)
            case hS310 => ((try dsimp only); (go_split_ands; refine ⟨?_, ?_, ?_, ?_, ?_, ?_, ?_, ?_⟩ <;> (simp [go_sem]; done)))
            clear hK K
            (try simp only [Act.put, List.setIfInBounds_toArray, List.set_cons_zero, List.set_cons_succ])
            clear hHeld
            have hHeld := hHeld'
            clear hHeld'
            refine wpAnyH_ready (rs := [7]) (by kernel_rfl) (by simp) ?_
            refine AllReadyH.cons (o := ?o311) ?ho311 (fun K hK => ?step311) AllReadyH.nil
            case ho311 => (simp only [List.getElem?_toArray, List.getElem?_cons_succ, List.getElem?_cons_zero]; rfl)
            go_simp
            refine hK.out _ _ ?hS312 (fun hHeld' => ?rest312)
            case hS312 => ((try dsimp only); (go_split_ands; refine ⟨?_, ?_, ?_, ?_, ?_, ?_, ?_, ?_⟩ <;> (simp [go_sem]; done)))
            clear hK K
            (try simp only [Act.put, List.setIfInBounds_toArray, List.set_cons_zero, List.set_cons_succ])
            clear hHeld
            have hHeld := hHeld'
            clear hHeld'
            refine wpAnyH_ready (rs := [9]) (by kernel_rfl) (by simp) ?_
            refine AllReadyH.cons (o := ?o313) ?ho313 (fun K hK => ?step313) AllReadyH.nil
            case ho313 => (simp only [List.getElem?_toArray, List.getElem?_cons_succ, List.getElem?_cons_zero]; rfl)
            go_simp
            (go_at_call 135; refine (hIs.out _ _ ?_).mono ?_; (first | exact ar_new _ _ _ (by simp) | exact ar_old _ _ _ _ (by simp)); rintro e' w' ⟨rfl, rfl⟩)
            (try go_wp2_with fail)
            refine hK.out _ _ ?hS314 (fun hHeld' => ?rest314)
            case hS314 => ((try dsimp only); (go_split_ands; refine ⟨?_, ?_, ?_, ?_, ?_, ?_, ?_, ?_⟩ <;> (simp [go_sem]; done)))
            clear hK K
            (try simp only [Act.put, List.setIfInBounds_toArray, List.set_cons_zero, List.set_cons_succ])
            clear hHeld
            have hHeld := hHeld'
            clear hHeld'
            refine wpAnyH_take (i := 10) (oi := ?oi315) (v := ?v315) ?hi315 (by kernel_rfl) (by kernel_rfl) (by kernel_rfl) (fun _ _ _ h => h) (Or.inl ⟨?wd315, ?hy315⟩) hHeld ?rest315
            case hi315 => (simp only [List.getElem?_toArray, List.getElem?_cons_succ, List.getElem?_cons_zero]; rfl)
            case wd315 => rfl
            case hy315 => (intro w hSw; (try dsimp only at hSw); go_simp; try with_reducible rfl)
            (try simp only [Act.put, List.setIfInBounds_toArray, List.set_cons_zero, List.set_cons_succ])
            refine wpAnyH_take (i := 11) (oi := ?oi316) (v := ?v316) ?hi316 (by kernel_rfl) (by kernel_rfl) (by kernel_rfl) (fun _ _ _ h => h) (Or.inl ⟨?wd316, ?hy316⟩) hHeld ?rest316
            case hi316 => (simp only [List.getElem?_toArray, List.getElem?_cons_succ, List.getElem?_cons_zero]; rfl)
            case wd316 => rfl
            case hy316 => (intro w hSw; (try dsimp only at hSw); go_simp; try with_reducible rfl)
            (try simp only [Act.put, List.setIfInBounds_toArray, List.set_cons_zero, List.set_cons_succ])
            refine wpAnyH_take (i := 12) (oi := ?oi317) (v := ?v317) ?hi317 (by kernel_rfl) (by kernel_rfl) (by kernel_rfl) (fun _ _ _ h => h) (Or.inl ⟨?wd317, ?hy317⟩) hHeld ?rest317
            case hi317 => (simp only [List.getElem?_toArray, List.getElem?_cons_succ, List.getElem?_cons_zero]; rfl)
            case wd317 => rfl
            case hy317 => (intro w hSw; (try dsimp only at hSw); go_simp; try with_reducible rfl)
            (try simp only [Act.put, List.setIfInBounds_toArray, List.set_cons_zero, List.set_cons_succ])
            refine wpAnyH_take (i := 13) (oi := ?oi318) (v := ?v318) ?hi318 (by kernel_rfl) (by kernel_rfl) (by kernel_rfl) (fun _ _ _ h => h) (Or.inl ⟨?wd318, ?hy318⟩) hHeld ?rest318
            case hi318 => (simp only [List.getElem?_toArray, List.getElem?_cons_succ, List.getElem?_cons_zero]; rfl)
            case wd318 => rfl
            case hy318 => (intro w hSw; (try dsimp only at hSw); go_simp; try with_reducible rfl)
            (try simp only [Act.put, List.setIfInBounds_toArray, List.set_cons_zero, List.set_cons_succ])
            refine wpAnyH_take (i := 14) (oi := ?oi319) (v := ?v319) ?hi319 (by kernel_rfl) (by kernel_rfl) (by kernel_rfl) (fun _ _ _ h => h) (Or.inl ⟨?wd319, ?hy319⟩) hHeld ?rest319
            case hi319 => (simp only [List.getElem?_toArray, List.getElem?_cons_succ, List.getElem?_cons_zero]; rfl)
            case wd319 => rfl
            case hy319 => (intro w hSw; (try dsimp only at hSw); go_simp; try with_reducible rfl)
            (try simp only [Act.put, List.setIfInBounds_toArray, List.set_cons_zero, List.set_cons_succ])
            refine wpAnyH_take (i := 15) (oi := ?oi320) (v := ?v320) ?hi320 (by kernel_rfl) (by kernel_rfl) (by kernel_rfl) (fun _ _ _ h => h) (Or.inl ⟨?wd320, ?hy320⟩) hHeld ?rest320
            case hi320 => (simp only [List.getElem?_toArray, List.getElem?_cons_succ, List.getElem?_cons_zero]; rfl)
            case wd320 => rfl
            case hy320 => (intro w hSw; (try dsimp only at hSw); go_simp; try with_reducible rfl)
            (try simp only [Act.put, List.setIfInBounds_toArray, List.set_cons_zero, List.set_cons_succ])
            refine wpAnyH_take (i := 16) (oi := ?oi321) (v := ?v321) ?hi321 (by kernel_rfl) (by kernel_rfl) (by kernel_rfl) (fun _ _ _ h => h) (Or.inl ⟨?wd321, ?hy321⟩) hHeld ?rest321
            case hi321 => (simp only [List.getElem?_toArray, List.getElem?_cons_succ, List.getElem?_cons_zero]; rfl)
            case wd321 => rfl
            case hy321 => (intro w hSw; (try dsimp only at hSw); go_simp; try with_reducible rfl)
            (try simp only [Act.put, List.setIfInBounds_toArray, List.set_cons_zero, List.set_cons_succ])
            by_cases a0 : e.a < 0
            · have ha0 : decide (e.a < 0) = true := decide_eq_true a0
              simp only [ha0]
              have HBAD := hidE (HB0.out a0)
              clear a0
              refine wpAnyH_take (i := 17) (oi := ?oi322) (v := undef) ?hi322 (by kernel_rfl) (by kernel_rfl) (by kernel_rfl) (fun _ _ _ h => h) (Or.inr ⟨?wd322, rfl⟩) hHeld ?rest322
              case hi322 => (simp only [List.getElem?_toArray, List.getElem?_cons_succ, List.getElem?_cons_zero]; rfl)
              case wd322 => rfl
              (try simp only [Act.put, List.setIfInBounds_toArray, List.set_cons_zero, List.set_cons_succ])
              refine wpAnyH_take (i := 18) (oi := ?oi323) (v := undef) ?hi323 (by kernel_rfl) (by kernel_rfl) (by kernel_rfl) (fun _ _ _ h => h) (Or.inr ⟨?wd323, rfl⟩) hHeld ?rest323
              case hi323 => (simp only [List.getElem?_toArray, List.getElem?_cons_succ, List.getElem?_cons_zero]; rfl)
              case wd323 => rfl
              (try simp only [Act.put, List.setIfInBounds_toArray, List.set_cons_zero, List.set_cons_succ])
              refine wpAnyH_take (i := 19) (oi := ?oi324) (v := undef) ?hi324 (by kernel_rfl) (by kernel_rfl) (by kernel_rfl) (fun _ _ _ h => h) (Or.inr ⟨?wd324, rfl⟩) hHeld ?rest324
              case hi324 => (simp only [List.getElem?_toArray, List.getElem?_cons_succ, List.getElem?_cons_zero]; rfl)
              case wd324 => rfl
              (try simp only [Act.put, List.setIfInBounds_toArray, List.set_cons_zero, List.set_cons_succ])
              refine wpAnyH_take (i := 20) (oi := ?oi325) (v := undef) ?hi325 (by kernel_rfl) (by kernel_rfl) (by kernel_rfl) (fun _ _ _ h => h) (Or.inr ⟨?wd325, rfl⟩) hHeld ?rest325
              case hi325 => (simp only [List.getElem?_toArray, List.getElem?_cons_succ, List.getElem?_cons_zero]; rfl)
              case wd325 => rfl
              (try simp only [Act.put, List.setIfInBounds_toArray, List.set_cons_zero, List.set_cons_succ])
              refine wpAnyH_take (i := 21) (oi := ?oi326) (v := ?v326) ?hi326 (by kernel_rfl) (by kernel_rfl) (by kernel_rfl) (fun _ _ _ h => h) (Or.inl ⟨?wd326, ?hy326⟩) hHeld ?rest326
              case hi326 => (simp only [List.getElem?_toArray, List.getElem?_cons_succ, List.getElem?_cons_zero]; rfl)
              case wd326 => rfl
              case hy326 => (intro w hSw; (try dsimp only at hSw); go_simp; try with_reducible rfl)
              (try simp only [Act.put, List.setIfInBounds_toArray, List.set_cons_zero, List.set_cons_succ])
              refine wpAnyH_take (i := 22) (oi := ?oi327) (v := ?v327) ?hi327 (by kernel_rfl) (by kernel_rfl) (by kernel_rfl) (fun _ _ _ h => h) (Or.inl ⟨?wd327, ?hy327⟩) hHeld ?rest327
              case hi327 => (simp only [List.getElem?_toArray, List.getElem?_cons_succ, List.getElem?_cons_zero]; rfl)
              case wd327 => rfl
              case hy327 => (intro w hSw; (try dsimp only at hSw); go_simp; try with_reducible rfl)
              (try simp only [Act.put, List.setIfInBounds_toArray, List.set_cons_zero, List.set_cons_succ])
              refine wpAnyH_take (i := 23) (oi := ?oi328) (v := undef) ?hi328 (by kernel_rfl) (by kernel_rfl) (by kernel_rfl) (fun _ _ _ h => h) (Or.inr ⟨?wd328, rfl⟩) hHeld ?rest328
              case hi328 => (simp only [List.getElem?_toArray, List.getElem?_cons_succ, List.getElem?_cons_zero]; rfl)
              case wd328 => rfl
              (try simp only [Act.put, List.setIfInBounds_toArray, List.set_cons_zero, List.set_cons_succ])
              refine wpAnyH_take (i := 24) (oi := ?oi329) (v := undef) ?hi329 (by kernel_rfl) (by kernel_rfl) (by kernel_rfl) (fun _ _ _ h => h) (Or.inr ⟨?wd329, rfl⟩) hHeld ?rest329
              case hi329 => (simp only [List.getElem?_toArray, List.getElem?_cons_succ, List.getElem?_cons_zero]; rfl)
              case wd329 => rfl
              (try simp only [Act.put, List.setIfInBounds_toArray, List.set_cons_zero, List.set_cons_succ])
              refine wpAnyH_take (i := 25) (oi := ?oi330) (v := undef) ?hi330 (by kernel_rfl) (by kernel_rfl) (by kernel_rfl) (fun _ _ _ h => h) (Or.inr ⟨?wd330, rfl⟩) hHeld ?rest330
              case hi330 => (simp only [List.getElem?_toArray, List.getElem?_cons_succ, List.getElem?_cons_zero]; rfl)
              case wd330 => rfl
              (try simp only [Act.put, List.setIfInBounds_toArray, List.set_cons_zero, List.set_cons_succ])
              refine wpAnyH_take (i := 26) (oi := ?oi331) (v := ?v331) ?hi331 (by kernel_rfl) (by kernel_rfl) (by kernel_rfl) (fun _ _ _ h => h) (Or.inl ⟨?wd331, ?hy331⟩) hHeld ?rest331
              case hi331 => (simp only [List.getElem?_toArray, List.getElem?_cons_succ, List.getElem?_cons_zero]; rfl)
              case wd331 => rfl
              case hy331 => (intro w hSw; (try dsimp only at hSw); go_simp; try with_reducible rfl)
              (try simp only [Act.put, List.setIfInBounds_toArray, List.set_cons_zero, List.set_cons_succ])
              refine wpAnyH_take (i := 27) (oi := ?oi332) (v := ?v332) ?hi332 (by kernel_rfl) (by kernel_rfl) (by kernel_rfl) (fun _ _ _ h => h) (Or.inl ⟨?wd332, ?hy332⟩) hHeld ?rest332
              case hi332 => (simp only [List.getElem?_toArray, List.getElem?_cons_succ, List.getElem?_cons_zero]; rfl)
              case wd332 => rfl
              case hy332 => (intro w hSw; (try dsimp only at hSw); go_simp; try with_reducible rfl)
              (try simp only [Act.put, List.setIfInBounds_toArray, List.set_cons_zero, List.set_cons_succ])
              refine wpAnyH_take (i := 28) (oi := ?oi333) (v := undef) ?hi333 (by kernel_rfl) (by kernel_rfl) (by kernel_rfl) (fun _ _ _ h => h) (Or.inr ⟨?wd333, rfl⟩) hHeld ?rest333
              case hi333 => (simp only [List.getElem?_toArray, List.getElem?_cons_succ, List.getElem?_cons_zero]; rfl)
              case wd333 => rfl
              (try simp only [Act.put, List.setIfInBounds_toArray, List.set_cons_zero, List.set_cons_succ])
              refine wpAnyH_take (i := 29) (oi := ?oi334) (v := undef) ?hi334 (by kernel_rfl) (by kernel_rfl) (by kernel_rfl) (fun _ _ _ h => h) (Or.inr ⟨?wd334, rfl⟩) hHeld ?rest334
              case hi334 => (simp only [List.getElem?_toArray, List.getElem?_cons_succ, List.getElem?_cons_zero]; rfl)
              case wd334 => rfl
              (try simp only [Act.put, List.setIfInBounds_toArray, List.set_cons_zero, List.set_cons_succ])
              refine wpAnyH_take (i := 30) (oi := ?oi335) (v := undef) ?hi335 (by kernel_rfl) (by kernel_rfl) (by kernel_rfl) (fun _ _ _ h => h) (Or.inr ⟨?wd335, rfl⟩) hHeld ?rest335
              case hi335 => (simp only [List.getElem?_toArray, List.getElem?_cons_succ, List.getElem?_cons_zero]; rfl)
              case wd335 => rfl
              (try simp only [Act.put, List.setIfInBounds_toArray, List.set_cons_zero, List.set_cons_succ])
              refine wpAnyH_take (i := 31) (oi := ?oi336) (v := undef) ?hi336 (by kernel_rfl) (by kernel_rfl) (by kernel_rfl) (fun _ _ _ h => h) (Or.inr ⟨?wd336, rfl⟩) hHeld ?rest336
              case hi336 => (simp only [List.getElem?_toArray, List.getElem?_cons_succ, List.getElem?_cons_zero]; rfl)
              case wd336 => rfl
              (try simp only [Act.put, List.setIfInBounds_toArray, List.set_cons_zero, List.set_cons_succ])
              refine wpAnyH_take (i := 32) (oi := ?oi337) (v := ?v337) ?hi337 (by kernel_rfl) (by kernel_rfl) (by kernel_rfl) (fun _ _ _ h => h) (Or.inl ⟨?wd337, ?hy337⟩) hHeld ?rest337
              case hi337 => (simp only [List.getElem?_toArray, List.getElem?_cons_succ, List.getElem?_cons_zero]; rfl)
              case wd337 => rfl
              case hy337 => (intro w hSw; (try dsimp only at hSw); go_simp; try with_reducible rfl)
              (try simp only [Act.put, List.setIfInBounds_toArray, List.set_cons_zero, List.set_cons_succ])
              refine wpAnyH_take (i := 33) (oi := ?oi338) (v := ?v338) ?hi338 (by kernel_rfl) (by kernel_rfl) (by kernel_rfl) (fun _ _ _ h => h) (Or.inl ⟨?wd338, ?hy338⟩) hHeld ?rest338
              case hi338 => (simp only [List.getElem?_toArray, List.getElem?_cons_succ, List.getElem?_cons_zero]; rfl)
              case wd338 => rfl
              case hy338 => (intro w hSw; (try dsimp only at hSw); go_simp; try with_reducible rfl)
              (try simp only [Act.put, List.setIfInBounds_toArray, List.set_cons_zero, List.set_cons_succ])
              refine wpAnyH_done (by kernel_rfl) ?_ _
              refine NoPanic.normal ?_
              refine lift_world (wr := wr) ?_
              intro W hWW
              clear f0 f1 f2 f3 z0 z1 z2 z3 hHeld
              obtain ⟨⟨f0, f1, f2, f3⟩, ⟨z0, z1, z2, z3⟩, hltW⟩ := (HBX.out.bel hWW).facts
              go_wp2_with fail
              refine bodyPost_ret (v := evV (evBad 1)) (by simp [results, Try.results75, go_sem, f0, f1, f2, f3, evV_bad]) rfl ⟨by rw [HBAD.out], ?_⟩
              exact ((((hb.trans (hWW.mono hb.size)).setCell (by simp) _).setCell (by simp) _).setCell (by simp) _).setCell (by simp) _
            · have ha0 : decide (e.a < 0) = false := decide_eq_false a0
              simp only [ha0]
              refine wpAnyH_take (i := 17) (oi := ?oi339) (v := ?v339) ?hi339 (by kernel_rfl) (by kernel_rfl) (by kernel_rfl) (fun _ _ _ h => h) (Or.inl ⟨?wd339, ?hy339⟩) hHeld ?rest339
              case hi339 => (simp only [List.getElem?_toArray, List.getElem?_cons_succ, List.getElem?_cons_zero]; rfl)
              case wd339 => rfl
              case hy339 => (intro w hSw; (try dsimp only at hSw); go_simp; try with_reducible rfl)
              (try simp only [Act.put, List.setIfInBounds_toArray, List.set_cons_zero, List.set_cons_succ])
              refine wpAnyH_take (i := 18) (oi := ?oi340) (v := ?v340) ?hi340 (by kernel_rfl) (by kernel_rfl) (by kernel_rfl) (fun _ _ _ h => h) (Or.inl ⟨?wd340, ?hy340⟩) hHeld ?rest340
              case hi340 => (simp only [List.getElem?_toArray, List.getElem?_cons_succ, List.getElem?_cons_zero]; rfl)
              case wd340 => rfl
              case hy340 => (intro w hSw; (try dsimp only at hSw); go_simp; try with_reducible rfl)
              (try simp only [Act.put, List.setIfInBounds_toArray, List.set_cons_zero, List.set_cons_succ])
              refine wpAnyH_take (i := 19) (oi := ?oi341) (v := ?v341) ?hi341 (by kernel_rfl) (by kernel_rfl) (by kernel_rfl) (fun _ _ _ h => h) (Or.inl ⟨?wd341, ?hy341⟩) hHeld ?rest341
              case hi341 => (simp only [List.getElem?_toArray, List.getElem?_cons_succ, List.getElem?_cons_zero]; rfl)
              case wd341 => rfl
              case hy341 => (intro w hSw; (try dsimp only at hSw); go_simp; try with_reducible rfl)
              (try simp only [Act.put, List.setIfInBounds_toArray, List.set_cons_zero, List.set_cons_succ])
              refine wpAnyH_take (i := 20) (oi := ?oi342) (v := ?v342) ?hi342 (by kernel_rfl) (by kernel_rfl) (by kernel_rfl) (fun _ _ _ h => h) (Or.inl ⟨?wd342, ?hy342⟩) hHeld ?rest342
              case hi342 => (simp only [List.getElem?_toArray, List.getElem?_cons_succ, List.getElem?_cons_zero]; rfl)
              case wd342 => rfl
              case hy342 => (intro w hSw; (try dsimp only at hSw); go_simp; try with_reducible rfl)
              (try simp only [Act.put, List.setIfInBounds_toArray, List.set_cons_zero, List.set_cons_succ])
              refine wpAnyH_take (i := 21) (oi := ?oi343) (v := ?v343) ?hi343 (by kernel_rfl) (by kernel_rfl) (by kernel_rfl) (fun _ _ _ h => h) (Or.inl ⟨?wd343, ?hy343⟩) hHeld ?rest343
              case hi343 => (simp only [List.getElem?_toArray, List.getElem?_cons_succ, List.getElem?_cons_zero]; rfl)
              case wd343 => rfl
              case hy343 => (intro w hSw; (try dsimp only at hSw); go_simp; try with_reducible rfl)
              (try simp only [Act.put, List.setIfInBounds_toArray, List.set_cons_zero, List.set_cons_succ])
              refine wpAnyH_take (i := 22) (oi := ?oi344) (v := ?v344) ?hi344 (by kernel_rfl) (by kernel_rfl) (by kernel_rfl) (fun _ _ _ h => h) (Or.inl ⟨?wd344, ?hy344⟩) hHeld ?rest344
              case hi344 => (simp only [List.getElem?_toArray, List.getElem?_cons_succ, List.getElem?_cons_zero]; rfl)
              case wd344 => rfl
              case hy344 => (intro w hSw; (try dsimp only at hSw); go_simp; try with_reducible rfl)
              (try simp only [Act.put, List.setIfInBounds_toArray, List.set_cons_zero, List.set_cons_succ])
              by_cases a1 : (k : Int) ≤ e.a
              · have ha1 : decide ((k : Int) ≤ e.a) = true := decide_eq_true a1
                simp only [ha1]
                have HBAD := hidE (HB1.out a1)
                clear a1
                refine wpAnyH_take (i := 23) (oi := ?oi345) (v := undef) ?hi345 (by kernel_rfl) (by kernel_rfl) (by kernel_rfl) (fun _ _ _ h => h) (Or.inr ⟨?wd345, rfl⟩) hHeld ?rest345
                case hi345 => (simp only [List.getElem?_toArray, List.getElem?_cons_succ, List.getElem?_cons_zero]; rfl)
                case wd345 => rfl
                (try simp only [Act.put, List.setIfInBounds_toArray, List.set_cons_zero, List.set_cons_succ])
                refine wpAnyH_take (i := 24) (oi := ?oi346) (v := undef) ?hi346 (by kernel_rfl) (by kernel_rfl) (by kernel_rfl) (fun _ _ _ h => h) (Or.inr ⟨?wd346, rfl⟩) hHeld ?rest346
                case hi346 => (simp only [List.getElem?_toArray, List.getElem?_cons_succ, List.getElem?_cons_zero]; rfl)
                case wd346 => rfl
                (try simp only [Act.put, List.setIfInBounds_toArray, List.set_cons_zero, List.set_cons_succ])
                refine wpAnyH_take (i := 25) (oi := ?oi347) (v := undef) ?hi347 (by kernel_rfl) (by kernel_rfl) (by kernel_rfl) (fun _ _ _ h => h) (Or.inr ⟨?wd347, rfl⟩) hHeld ?rest347
                case hi347 => (simp only [List.getElem?_toArray, List.getElem?_cons_succ, List.getElem?_cons_zero]; rfl)
                case wd347 => rfl
                (try simp only [Act.put, List.setIfInBounds_toArray, List.set_cons_zero, List.set_cons_succ])
                refine wpAnyH_take (i := 26) (oi := ?oi348) (v := ?v348) ?hi348 (by kernel_rfl) (by kernel_rfl) (by kernel_rfl) (fun _ _ _ h => h) (Or.inl ⟨?wd348, ?hy348⟩) hHeld ?rest348
                case hi348 => (simp only [List.getElem?_toArray, List.getElem?_cons_succ, List.getElem?_cons_zero]; rfl)
                case wd348 => rfl
                case hy348 => (intro w hSw; (try dsimp only at hSw); go_simp; try with_reducible rfl)
                (try simp only [Act.put, List.setIfInBounds_toArray, List.set_cons_zero, List.set_cons_succ])
                refine wpAnyH_take (i := 27) (oi := ?oi349) (v := ?v349) ?hi349 (by kernel_rfl) (by kernel_rfl) (by kernel_rfl) (fun _ _ _ h => h) (Or.inl ⟨?wd349, ?hy349⟩) hHeld ?rest349
                case hi349 => (simp only [List.getElem?_toArray, List.getElem?_cons_succ, List.getElem?_cons_zero]; rfl)
                case wd349 => rfl
                case hy349 => (intro w hSw; (try dsimp only at hSw); go_simp; try with_reducible rfl)
                (try simp only [Act.put, List.setIfInBounds_toArray, List.set_cons_zero, List.set_cons_succ])
                refine wpAnyH_take (i := 28) (oi := ?oi350) (v := undef) ?hi350 (by kernel_rfl) (by kernel_rfl) (by kernel_rfl) (fun _ _ _ h => h) (Or.inr ⟨?wd350, rfl⟩) hHeld ?rest350
                case hi350 => (simp only [List.getElem?_toArray, List.getElem?_cons_succ, List.getElem?_cons_zero]; rfl)
                case wd350 => rfl
                (try simp only [Act.put, List.setIfInBounds_toArray, List.set_cons_zero, List.set_cons_succ])
                refine wpAnyH_take (i := 29) (oi := ?oi351) (v := undef) ?hi351 (by kernel_rfl) (by kernel_rfl) (by kernel_rfl) (fun _ _ _ h => h) (Or.inr ⟨?wd351, rfl⟩) hHeld ?rest351
                case hi351 => (simp only [List.getElem?_toArray, List.getElem?_cons_succ, List.getElem?_cons_zero]; rfl)
                case wd351 => rfl
                (try simp only [Act.put, List.setIfInBounds_toArray, List.set_cons_zero, List.set_cons_succ])
                refine wpAnyH_take (i := 30) (oi := ?oi352) (v := undef) ?hi352 (by kernel_rfl) (by kernel_rfl) (by kernel_rfl) (fun _ _ _ h => h) (Or.inr ⟨?wd352, rfl⟩) hHeld ?rest352
                case hi352 => (simp only [List.getElem?_toArray, List.getElem?_cons_succ, List.getElem?_cons_zero]; rfl)
                case wd352 => rfl
                (try simp only [Act.put, List.setIfInBounds_toArray, List.set_cons_zero, List.set_cons_succ])
                refine wpAnyH_take (i := 31) (oi := ?oi353) (v := undef) ?hi353 (by kernel_rfl) (by kernel_rfl) (by kernel_rfl) (fun _ _ _ h => h) (Or.inr ⟨?wd353, rfl⟩) hHeld ?rest353
                case hi353 => (simp only [List.getElem?_toArray, List.getElem?_cons_succ, List.getElem?_cons_zero]; rfl)
                case wd353 => rfl
                (try simp only [Act.put, List.setIfInBounds_toArray, List.set_cons_zero, List.set_cons_succ])
                refine wpAnyH_take (i := 32) (oi := ?oi354) (v := ?v354) ?hi354 (by kernel_rfl) (by kernel_rfl) (by kernel_rfl) (fun _ _ _ h => h) (Or.inl ⟨?wd354, ?hy354⟩) hHeld ?rest354
                case hi354 => (simp only [List.getElem?_toArray, List.getElem?_cons_succ, List.getElem?_cons_zero]; rfl)
                case wd354 => rfl
                case hy354 => (intro w hSw; (try dsimp only at hSw); go_simp; try with_reducible rfl)
                (try simp only [Act.put, List.setIfInBounds_toArray, List.set_cons_zero, List.set_cons_succ])
                refine wpAnyH_take (i := 33) (oi := ?oi355) (v := ?v355) ?hi355 (by kernel_rfl) (by kernel_rfl) (by kernel_rfl) (fun _ _ _ h => h) (Or.inl ⟨?wd355, ?hy355⟩) hHeld ?rest355
                case hi355 => (simp only [List.getElem?_toArray, List.getElem?_cons_succ, List.getElem?_cons_zero]; rfl)
                case wd355 => rfl
                case hy355 => (intro w hSw; (try dsimp only at hSw); go_simp; try with_reducible rfl)
                (try simp only [Act.put, List.setIfInBounds_toArray, List.set_cons_zero, List.set_cons_succ])
                refine wpAnyH_done (by kernel_rfl) ?_ _
                refine NoPanic.normal ?_
                refine lift_world (wr := wr) ?_
                intro W hWW
                clear f0 f1 f2 f3 z0 z1 z2 z3 hHeld
                obtain ⟨⟨f0, f1, f2, f3⟩, ⟨z0, z1, z2, z3⟩, hltW⟩ := (HBX.out.bel hWW).facts
                go_wp2_with fail
                refine bodyPost_ret (v := evV (evBad 1)) (by simp [results, Try.results75, go_sem, f0, f1, f2, f3, evV_bad]) rfl ⟨by rw [HBAD.out], ?_⟩
                exact ((((hb.trans (hWW.mono hb.size)).setCell (by simp) _).setCell (by simp) _).setCell (by simp) _).setCell (by simp) _
              · have ha1 : decide ((k : Int) ≤ e.a) = false := decide_eq_false a1
                simp only [ha1]
                refine wpAnyH_take (i := 23) (oi := ?oi356) (v := ?v356) ?hi356 (by kernel_rfl) (by kernel_rfl) (by kernel_rfl) (fun _ _ _ h => h) (Or.inl ⟨?wd356, ?hy356⟩) hHeld ?rest356
                case hi356 => (simp only [List.getElem?_toArray, List.getElem?_cons_succ, List.getElem?_cons_zero]; rfl)
                case wd356 => rfl
                case hy356 => (intro w hSw; (try dsimp only at hSw); go_simp; try with_reducible rfl)
                (try simp only [Act.put, List.setIfInBounds_toArray, List.set_cons_zero, List.set_cons_succ])
                refine wpAnyH_take (i := 24) (oi := ?oi357) (v := ?v357) ?hi357 (by kernel_rfl) (by kernel_rfl) (by kernel_rfl) (fun _ _ _ h => h) (Or.inl ⟨?wd357, ?hy357⟩) hHeld ?rest357
                case hi357 => (simp only [List.getElem?_toArray, List.getElem?_cons_succ, List.getElem?_cons_zero]; rfl)
                case wd357 => rfl
                case hy357 => (intro w hSw; (try dsimp only at hSw); go_simp; try with_reducible rfl)
                (try simp only [Act.put, List.setIfInBounds_toArray, List.set_cons_zero, List.set_cons_succ])
                refine wpAnyH_take (i := 25) (oi := ?oi358) (v := ?v358) ?hi358 (by kernel_rfl) (by kernel_rfl) (by kernel_rfl) (fun _ _ _ h => h) (Or.inl ⟨?wd358, ?hy358⟩) hHeld ?rest358
                case hi358 => (simp only [List.getElem?_toArray, List.getElem?_cons_succ, List.getElem?_cons_zero]; rfl)
                case wd358 => rfl
                case hy358 => (intro w hSw; (try dsimp only at hSw); go_simp; try with_reducible rfl)
                (try simp only [Act.put, List.setIfInBounds_toArray, List.set_cons_zero, List.set_cons_succ])
                refine wpAnyH_take (i := 26) (oi := ?oi359) (v := ?v359) ?hi359 (by kernel_rfl) (by kernel_rfl) (by kernel_rfl) (fun _ _ _ h => h) (Or.inl ⟨?wd359, ?hy359⟩) hHeld ?rest359
                case hi359 => (simp only [List.getElem?_toArray, List.getElem?_cons_succ, List.getElem?_cons_zero]; rfl)
                case wd359 => rfl
                case hy359 => (intro w hSw; (try dsimp only at hSw); go_simp; try with_reducible rfl)
                (try simp only [Act.put, List.setIfInBounds_toArray, List.set_cons_zero, List.set_cons_succ])
                refine wpAnyH_take (i := 27) (oi := ?oi360) (v := ?v360) ?hi360 (by kernel_rfl) (by kernel_rfl) (by kernel_rfl) (fun _ _ _ h => h) (Or.inl ⟨?wd360, ?hy360⟩) hHeld ?rest360
                case hi360 => (simp only [List.getElem?_toArray, List.getElem?_cons_succ, List.getElem?_cons_zero]; rfl)
                case wd360 => rfl
                case hy360 => (intro w hSw; (try dsimp only at hSw); go_simp; try with_reducible rfl)
                (try simp only [Act.put, List.setIfInBounds_toArray, List.set_cons_zero, List.set_cons_succ])
                by_cases b0 : e.b < 0
                · have hb0 : decide (e.b < 0) = true := decide_eq_true b0
                  simp only [hb0]
                  have HBAD := hidE (HB2.out b0)
                  clear b0
                  refine wpAnyH_take (i := 28) (oi := ?oi361) (v := undef) ?hi361 (by kernel_rfl) (by kernel_rfl) (by kernel_rfl) (fun _ _ _ h => h) (Or.inr ⟨?wd361, rfl⟩) hHeld ?rest361
                  case hi361 => (simp only [List.getElem?_toArray, List.getElem?_cons_succ, List.getElem?_cons_zero]; rfl)
                  case wd361 => rfl
                  (try simp only [Act.put, List.setIfInBounds_toArray, List.set_cons_zero, List.set_cons_succ])
                  refine wpAnyH_take (i := 29) (oi := ?oi362) (v := undef) ?hi362 (by kernel_rfl) (by kernel_rfl) (by kernel_rfl) (fun _ _ _ h => h) (Or.inr ⟨?wd362, rfl⟩) hHeld ?rest362
                  case hi362 => (simp only [List.getElem?_toArray, List.getElem?_cons_succ, List.getElem?_cons_zero]; rfl)
                  case wd362 => rfl
                  (try simp only [Act.put, List.setIfInBounds_toArray, List.set_cons_zero, List.set_cons_succ])
                  refine wpAnyH_take (i := 30) (oi := ?oi363) (v := undef) ?hi363 (by kernel_rfl) (by kernel_rfl) (by kernel_rfl) (fun _ _ _ h => h) (Or.inr ⟨?wd363, rfl⟩) hHeld ?rest363
                  case hi363 => (simp only [List.getElem?_toArray, List.getElem?_cons_succ, List.getElem?_cons_zero]; rfl)
                  case wd363 => rfl
                  (try simp only [Act.put, List.setIfInBounds_toArray, List.set_cons_zero, List.set_cons_succ])
                  refine wpAnyH_take (i := 31) (oi := ?oi364) (v := undef) ?hi364 (by kernel_rfl) (by kernel_rfl) (by kernel_rfl) (fun _ _ _ h => h) (Or.inr ⟨?wd364, rfl⟩) hHeld ?rest364
                  case hi364 => (simp only [List.getElem?_toArray, List.getElem?_cons_succ, List.getElem?_cons_zero]; rfl)
                  case wd364 => rfl
                  (try simp only [Act.put, List.setIfInBounds_toArray, List.set_cons_zero, List.set_cons_succ])
                  refine wpAnyH_take (i := 32) (oi := ?oi365) (v := ?v365) ?hi365 (by kernel_rfl) (by kernel_rfl) (by kernel_rfl) (fun _ _ _ h => h) (Or.inl ⟨?wd365, ?hy365⟩) hHeld ?rest365
                  case hi365 => (simp only [List.getElem?_toArray, List.getElem?_cons_succ, List.getElem?_cons_zero]; rfl)
                  case wd365 => rfl
                  case hy365 => (intro w hSw; (try dsimp only at hSw); go_simp; try with_reducible rfl)
                  (try simp only [Act.put, List.setIfInBounds_toArray, List.set_cons_zero, List.set_cons_succ])
                  refine wpAnyH_take (i := 33) (oi := ?oi366) (v := ?v366) ?hi366 (by kernel_rfl) (by kernel_rfl) (by kernel_rfl) (fun _ _ _ h => h) (Or.inl ⟨?wd366, ?hy366⟩) hHeld ?rest366
                  case hi366 => (simp only [List.getElem?_toArray, List.getElem?_cons_succ, List.getElem?_cons_zero]; rfl)
                  case wd366 => rfl
                  case hy366 => (intro w hSw; (try dsimp only at hSw); go_simp; try with_reducible rfl)
                  (try simp only [Act.put, List.setIfInBounds_toArray, List.set_cons_zero, List.set_cons_succ])
                  refine wpAnyH_done (by kernel_rfl) ?_ _
                  refine NoPanic.normal ?_
                  refine lift_world (wr := wr) ?_
                  intro W hWW
                  clear f0 f1 f2 f3 z0 z1 z2 z3 hHeld
                  obtain ⟨⟨f0, f1, f2, f3⟩, ⟨z0, z1, z2, z3⟩, hltW⟩ := (HBX.out.bel hWW).facts
                  go_wp2_with fail
                  refine bodyPost_ret (v := evV (evBad 1)) (by simp [results, Try.results75, go_sem, f0, f1, f2, f3, evV_bad]) rfl ⟨by rw [HBAD.out], ?_⟩
                  exact ((((hb.trans (hWW.mono hb.size)).setCell (by simp) _).setCell (by simp) _).setCell (by simp) _).setCell (by simp) _
                · have hb0 : decide (e.b < 0) = false := decide_eq_false b0
                  simp only [hb0]
                  refine wpAnyH_take (i := 28) (oi := ?oi367) (v := ?v367) ?hi367 (by kernel_rfl) (by kernel_rfl) (by kernel_rfl) (fun _ _ _ h => h) (Or.inl ⟨?wd367, ?hy367⟩) hHeld ?rest367
                  case hi367 => (simp only [List.getElem?_toArray, List.getElem?_cons_succ, List.getElem?_cons_zero]; rfl)
                  case wd367 => rfl
                  case hy367 => (intro w hSw; (try dsimp only at hSw); go_simp; try with_reducible rfl)
                  (try simp only [Act.put, List.setIfInBounds_toArray, List.set_cons_zero, List.set_cons_succ])
                  refine wpAnyH_take (i := 29) (oi := ?oi368) (v := ?v368) ?hi368 (by kernel_rfl) (by kernel_rfl) (by kernel_rfl) (fun _ _ _ h => h) (Or.inl ⟨?wd368, ?hy368⟩) hHeld ?rest368
                  case hi368 => (simp only [List.getElem?_toArray, List.getElem?_cons_succ, List.getElem?_cons_zero]; rfl)
                  case wd368 => rfl
                  case hy368 => (intro w hSw; (try dsimp only at hSw); go_simp; try with_reducible rfl)
                  (try simp only [Act.put, List.setIfInBounds_toArray, List.set_cons_zero, List.set_cons_succ])
                  refine wpAnyH_take (i := 30) (oi := ?oi369) (v := ?v369) ?hi369 (by kernel_rfl) (by kernel_rfl) (by kernel_rfl) (fun _ _ _ h => h) (Or.inl ⟨?wd369, ?hy369⟩) hHeld ?rest369
                  case hi369 => (simp only [List.getElem?_toArray, List.getElem?_cons_succ, List.getElem?_cons_zero]; rfl)
                  case wd369 => rfl
                  case hy369 => (intro w hSw; (try dsimp only at hSw); go_simp; try with_reducible rfl)
                  (try simp only [Act.put, List.setIfInBounds_toArray, List.set_cons_zero, List.set_cons_succ])
                  refine wpAnyH_take (i := 31) (oi := ?oi370) (v := ?v370) ?hi370 (by kernel_rfl) (by kernel_rfl) (by kernel_rfl) (fun _ _ _ h => h) (Or.inl ⟨?wd370, ?hy370⟩) hHeld ?rest370
                  case hi370 => (simp only [List.getElem?_toArray, List.getElem?_cons_succ, List.getElem?_cons_zero]; rfl)
                  case wd370 => rfl
                  case hy370 => (intro w hSw; (try dsimp only at hSw); go_simp; try with_reducible rfl)
                  (try simp only [Act.put, List.setIfInBounds_toArray, List.set_cons_zero, List.set_cons_succ])
                  refine wpAnyH_take (i := 32) (oi := ?oi371) (v := ?v371) ?hi371 (by kernel_rfl) (by kernel_rfl) (by kernel_rfl) (fun _ _ _ h => h) (Or.inl ⟨?wd371, ?hy371⟩) hHeld ?rest371
                  case hi371 => (simp only [List.getElem?_toArray, List.getElem?_cons_succ, List.getElem?_cons_zero]; rfl)
                  case wd371 => rfl
                  case hy371 => (intro w hSw; (try dsimp only at hSw); go_simp; try with_reducible rfl)
                  (try simp only [Act.put, List.setIfInBounds_toArray, List.set_cons_zero, List.set_cons_succ])
                  by_cases b1 : (k : Int) ≤ e.b
                  · have hb1 : decide ((k : Int) ≤ e.b) = true := decide_eq_true b1
                    simp only [hb1]
                    have HBAD := hidE (HB3.out b1)
                    clear b1
                    refine wpAnyH_take (i := 33) (oi := ?oi372) (v := ?v372) ?hi372 (by kernel_rfl) (by kernel_rfl) (by kernel_rfl) (fun _ _ _ h => h) (Or.inl ⟨?wd372, ?hy372⟩) hHeld ?rest372
                    case hi372 => (simp only [List.getElem?_toArray, List.getElem?_cons_succ, List.getElem?_cons_zero]; rfl)
                    case wd372 => rfl
                    case hy372 => (intro w hSw; (try dsimp only at hSw); go_simp; try with_reducible rfl)
                    (try simp only [Act.put, List.setIfInBounds_toArray, List.set_cons_zero, List.set_cons_succ])
                    refine wpAnyH_done (by kernel_rfl) ?_ _
                    refine NoPanic.normal ?_
                    refine lift_world (wr := wr) ?_
                    intro W hWW
                    clear f0 f1 f2 f3 z0 z1 z2 z3 hHeld
                    obtain ⟨⟨f0, f1, f2, f3⟩, ⟨z0, z1, z2, z3⟩, hltW⟩ := (HBX.out.bel hWW).facts
                    go_wp2_with fail
                    refine bodyPost_ret (v := evV (evBad 1)) (by simp [results, Try.results75, go_sem, f0, f1, f2, f3, evV_bad]) rfl ⟨by rw [HBAD.out], ?_⟩
                    exact ((((hb.trans (hWW.mono hb.size)).setCell (by simp) _).setCell (by simp) _).setCell (by simp) _).setCell (by simp) _
                  · have hb1 : decide ((k : Int) ≤ e.b) = false := decide_eq_false b1
                    simp only [hb1]
                    have HON := hidE (HOK.out (by omega) (by omega) (by omega) (by omega))
                    refine wpAnyH_take (i := 33) (oi := ?oi373) (v := ?v373) ?hi373 (by kernel_rfl) (by kernel_rfl) (by kernel_rfl) (fun _ _ _ h => h) (Or.inl ⟨?wd373, ?hy373⟩) hHeld ?rest373
                    case hi373 => (simp only [List.getElem?_toArray, List.getElem?_cons_succ, List.getElem?_cons_zero]; rfl)
                    case wd373 => rfl
                    case hy373 => (intro w hSw; (try dsimp only at hSw); go_simp; try with_reducible rfl)
                    (try simp only [Act.put, List.setIfInBounds_toArray, List.set_cons_zero, List.set_cons_succ])
                    refine wpAnyH_done (by kernel_rfl) ?_ _
                    refine NoPanic.normal ?_
                    go_wp2_with fail
                    go_roundw
                    case rel => (refine ⟨k + 1, by omega, by go_num, HON.out, HBX.out.bel ?_, ?_⟩ <;> (repeat (first | exact hb | exact Below.refl _ _ | (refine Below.alloc ?_ (by first | (simp; done) | (simp; omega) | omega) _) | (refine Below.drew ?_) | (refine Below.setCell ?_ (by simp) _))))
                    case measure => (simp [intOf]; omega)
    · have hkk : k = i + 1 := by omega
      have HSD : Hid (soundGo T 0 = true) := show soundGo T 0 = true from by
        rw [HG.out, hkk, List.drop_eq_nil_of_le (by rw [HT.out]; simp; omega)]
        rfl
      have HSG := hidE (fun j e h => soundGo_at T 0 j e HSD.out h)
      have HFT := hidE (fun k => table_fits hfb (es.take k) [] (fun e he => hfe e (List.mem_of_mem_take he)) (fun x hx => by simp at hx))
      have HLN := hidE (fun k => table_len bs (es.take k) [])
      obtain ⟨w1, rfl⟩ : ∃ u, u = wr := ⟨wr, rfl⟩
      have HB1 := hidE hb
      have hkI : ¬ (k : Int) ≤ (i : Int) := by omega
      have HBX1 := hidE HBX.out
      clear HG hkk HUN HX f0 f1 f2 f3 z0 z1 z2 z3 HBX
      go_wp2
      clear hkI
      rename_i hJ0 hJ1 hJ2
      go_loopw [9, 10] (fun v kv wr => ∃ (m : Nat) (a' : Option Addr) (c' : Nat), m ≤ i + 1 ∧ kv = .int .i64 m ∧ v = .slice a' m c' ∧ wr.ownsRow w1.heap.size 122 4 (.slice a' m c') m ((table bs (es.take m) []).flatMap evCells) ∧ Below w1.heap.size w1 wr) (fun _ kv _ => i + 1 - (intOf kv).toNat)
      case atStart => exact ⟨0, none, 0, by omega, rfl, rfl, World.ownsRow_nil _ _ _ _, Below.refl _ _⟩
      case round =>
        obtain ⟨m, a', c', hm, rfl, rfl, hown, hbW⟩ := hrel
        have HO := hidE hown
        have hW : Below w.heap.size w wr := HB1.out.trans (hbW.mono HB1.out.size)
        have hszW := hbW.size
        clear hown
        by_cases hmi : m < i + 1
        · have hmes : m < es.length := by have := HI60.out; omega
          obtain ⟨e, hek⟩ : ∃ e, es[m]? = some e := ⟨es[m], by simp [hmes]⟩
          obtain ⟨b, o, rfl, hq, c0, c1, c2, c3, c4, c5, c6, c7⟩ := (hv.below hW).get hek
          have hTk : T[m]? = some e := by rw [HT.out, List.getElem?_take, if_pos hmi, hek]
          have hse := HSG.out m e hTk
          rw [Nat.zero_add] at hse
          have hln : (table bs (es.take m) []).length = m := by rw [HLN.out]; simp; omega
          have HFk := hidE (HFT.out m)
          have HSN := hidE (table_snoc (bs := bs) hek)
          obtain ⟨tab, hTb⟩ : ∃ tab, tab = table bs (es.take m) [] := ⟨_, rfl⟩
          rw [← hTb] at hln HFk HSN HO
          have hm60 : m < 60 := by have := HI60.out; omega
          have HOW := hidE (fun W (h : Below wr.heap.size wr W) => owns_of_block HO.out (fun g hg => h.block g (HO.out.lt g hg).2))
          have HBS := hidE (fun g (hg : (Value.slice a' m c').ownBlock = some g) => HO.out.lt g hg)
          have A2 : ∀ o1 o2, Below wr.heap.size wr ((wr.alloc o1).alloc o2) := fun o1 o2 => B2e wr o1 o2
          have HA2 := hidE A2
          have hb2 : Below wr.heap.size wr wr := Below.refl _ _
          unfold soundE at hse
          simp only [Bool.or_eq_true, Bool.and_eq_true, beq_iff_eq, decide_eq_true_eq] at hse
          clear hTb hq hTk hek A2 hmes
          rcases hse with (kd | kd) | ⟨⟨⟨⟨⟨kd, h1⟩, h2⟩, h3⟩, h4⟩, h5⟩
          · have HE : Hid (ev1 bs tab e = ⟨0, e.val⟩) := ev1_0 kd
            generalize ev1 bs tab e = EE at HSN HE
            have HLL := hidE hln
            rw [kd] at c0
            clear kd hln
            go_wp2_with (first | (at_builtin; refine wpList_append_any (by rfl) (.tmp 125) (.tmp 127) 202 (by rfl) w1.heap.size 122 _ 4 40 Try.underlying202 infoEv7 (by rfl) (by omega) _ m _ (by rfl) (HOW.out _ (by (repeat (first | with_reducible exact Below.refl _ _ | with_reducible exact hb2 | (refine Below.alloc ?_ (by first | (simp; done) | (simp; omega) | omega) _) | (refine Below.drew ?_) | (refine Below.setCell ?_ (by first | (simp; done) | (simp; omega)) _))))) (some ⟨_, 0, none⟩) 1 1 (by rfl) (evCells ⟨0, e.val⟩) (by rfl) (fun e => by cases e) (news_allocW _ _ _ _ (by simp)) (evCells_one ⟨0, e.val⟩) (by unfold maxLen; omega) (by omega) (by first | (simp; omega) | omega) ?_; intro a3 c3 w3 ho3 hg3 hl3) | fail)
            have hB3 : Below w1.heap.size w1 w3 := Below.grown (hbW.trans (Below.mono (by (repeat (first | with_reducible exact Below.refl _ _ | with_reducible exact hb2 | (refine Below.alloc ?_ (by first | (simp; done) | (simp; omega) | omega) _) | (refine Below.drew ?_) | (refine Below.setCell ?_ (by first | (simp; done) | (simp; omega)) _)))) hbW.size)) hg3.out (by first | (simp; omega) | omega) (fun g hg => (HBS.out g hg).1)
            have ho3' : w3.ownsRow w1.heap.size 122 4 (.slice a3 (m + 1) c3) (m + 1) ((table bs (es.take (m + 1)) []).flatMap evCells) := by
              have := ho3.out
              rw [HSN.out, HE.out, List.flatMap_append]
              simpa using this
            clear ho3 hg3 hl3
            go_wp2_with fail
            go_roundw
            case rel => exact ⟨m + 1, a3, c3, by omega, by go_num, rfl, ho3', hB3⟩
            case measure => (simp [intOf]; omega)
          · have HE0 := hidE (ev1_1 (bs := bs) (tab := tab) kd)
            have HBD := hidE (fun o1 o2 => l4Bind_any e.var a2 cb bs ((wr.alloc o1).alloc o2) ((hbd.below hW).below (HA2.out o1 o2)) hl2)
            have HXB := hidE (fun o1 x0 x1 x2 x3 => Bx4.made2 wr o1 122 x0 x1 x2 x3)
            generalize ev1 bs tab e = EE at HSN HE0
            have HLL := hidE hln
            rw [kd] at c0
            clear kd hln hb2
            cases hlk : lookB bs e.var with
            | none =>
              rw [hlk] at HBD
              have HE : Hid (EE = evBad 1) := show EE = _ from by rw [HE0.out]; exact evVar_none hlk
              unfold bdV at HBD
              go_wp2_with (first | (go_at_call 137; with_reducible refine (HBD.out _ _).mono ?_; rintro r w2 ⟨rfl, hb2'⟩; have hb2 := (HA2.out _ _).trans (hb2'.mono (HA2.out _ _).size); have HB4 := hidE ((HXB.out _ _ _ _ _).bel hb2'); clear hb2' HBD HXB) | (refine wpList_store_blk (by rfl) 122 (.tmp 12) (.tmp 106) (by rfl) (wr.heap.size + 1) (evCells ⟨0, zVal⟩) (by rfl) (by rfl) _ 122 (HB4.out.bel ((Below.refl _ _).alloc (Nat.le_refl _) _)) (by rfl) infoEvS (evCells_one _) ?_; intro w3 hk3 ht3; have hb3 : Below wr.heap.size wr w3 := (hb2.alloc hb2.size _).trans (ht3.out.below (by omega)); have HB5 := hidE (blk4 hk3.out); clear hk3 ht3 hb2 HB4; have hb2 := hb3; have HB4 := HB5; clear hb3 HB5; obtain ⟨⟨f0, f1, f2, f3⟩, ⟨z0, z1, z2, z3⟩, hlt2⟩ := HB4.out.facts) | (refine wpList_store_blk (by rfl) 122 (.tmp 12) (.tmp 109) (by rfl) (wr.heap.size + 1) (evCells (evBad 1)) (by rfl) (by rfl) _ 122 (HB4.out) (by rfl) infoEvS (evCells_one _) ?_; intro w3 hk3 ht3; have hb3 : Below wr.heap.size wr w3 := hb2.trans (ht3.out.below (by omega)); have HB5 := hidE (blk4 hk3.out); clear hk3 ht3 hb2 HB4; have hb2 := hb3; have HB4 := HB5; clear hb3 HB5; obtain ⟨⟨f0, f1, f2, f3⟩, ⟨z0, z1, z2, z3⟩, hlt2⟩ := HB4.out.facts) | (at_builtin; refine wpList_append_any (by rfl) (.tmp 125) (.tmp 127) 202 (by rfl) w1.heap.size 122 _ 4 40 Try.underlying202 infoEv7 (by rfl) (by omega) _ m _ (by rfl) (HOW.out _ (by (repeat (first | with_reducible exact Below.refl _ _ | with_reducible exact hb2 | (refine Below.alloc ?_ (by first | (simp; done) | (simp; omega) | omega) _) | (refine Below.drew ?_) | (refine Below.setCell ?_ (by first | (simp; done) | (simp; omega)) _))))) (some ⟨_, 0, none⟩) 1 1 (by rfl) (evCells (evBad 1)) (by rfl) (fun e => by cases e) (news_allocW _ _ _ _ (by simp)) (evCells_one (evBad 1)) (by unfold maxLen; omega) (by omega) (by first | (simp; omega) | omega) ?_; intro a3 c3 w3 ho3 hg3 hl3) | fail)
              have hB3 : Below w1.heap.size w1 w3 := Below.grown (hbW.trans (Below.mono (by (repeat (first | with_reducible exact Below.refl _ _ | with_reducible exact hb2 | (refine Below.alloc ?_ (by first | (simp; done) | (simp; omega) | omega) _) | (refine Below.drew ?_) | (refine Below.setCell ?_ (by first | (simp; done) | (simp; omega)) _)))) hbW.size)) hg3.out (by first | (simp; omega) | omega) (fun g hg => (HBS.out g hg).1)
              have ho3' : w3.ownsRow w1.heap.size 122 4 (.slice a3 (m + 1) c3) (m + 1) ((table bs (es.take (m + 1)) []).flatMap evCells) := by
                have := ho3.out
                rw [HSN.out, HE.out, List.flatMap_append]
                simpa using this
              clear ho3 hg3 hl3
              go_wp2_with fail
              go_roundw
              case rel => exact ⟨m + 1, a3, c3, by omega, by go_num, rfl, ho3', hB3⟩
              case measure => (simp [intOf]; omega)
            | some v =>
              rw [hlk] at HBD
              have HE : Hid (EE = ⟨0, v⟩) := show EE = _ from by rw [HE0.out]; exact evVar_some hlk
              unfold bdV at HBD
              go_wp2_with (first | (go_at_call 137; with_reducible refine (HBD.out _ _).mono ?_; rintro r w2 ⟨rfl, hb2'⟩; have hb2 := (HA2.out _ _).trans (hb2'.mono (HA2.out _ _).size); have HB4 := hidE ((HXB.out _ _ _ _ _).bel hb2'); clear hb2' HBD HXB) | (refine wpList_store_blk (by rfl) 122 (.tmp 12) (.tmp 106) (by rfl) (wr.heap.size + 1) (evCells ⟨0, v⟩) (by rfl) (by rfl) _ 122 (HB4.out.bel ((Below.refl _ _).alloc (Nat.le_refl _) _)) (by rfl) infoEvS (evCells_one _) ?_; intro w3 hk3 ht3; have hb3 : Below wr.heap.size wr w3 := (hb2.alloc hb2.size _).trans (ht3.out.below (by omega)); have HB5 := hidE (blk4 hk3.out); clear hk3 ht3 hb2 HB4; have hb2 := hb3; have HB4 := HB5; clear hb3 HB5; obtain ⟨⟨f0, f1, f2, f3⟩, ⟨z0, z1, z2, z3⟩, hlt2⟩ := HB4.out.facts) | (at_builtin; refine wpList_append_any (by rfl) (.tmp 125) (.tmp 127) 202 (by rfl) w1.heap.size 122 _ 4 40 Try.underlying202 infoEv7 (by rfl) (by omega) _ m _ (by rfl) (HOW.out _ (by (repeat (first | with_reducible exact Below.refl _ _ | with_reducible exact hb2 | (refine Below.alloc ?_ (by first | (simp; done) | (simp; omega) | omega) _) | (refine Below.drew ?_) | (refine Below.setCell ?_ (by first | (simp; done) | (simp; omega)) _))))) (some ⟨_, 0, none⟩) 1 1 (by rfl) (evCells ⟨0, v⟩) (by rfl) (fun e => by cases e) (news_allocW _ _ _ _ (by simp)) (evCells_one ⟨0, v⟩) (by unfold maxLen; omega) (by omega) (by first | (simp; omega) | omega) ?_; intro a3 c3 w3 ho3 hg3 hl3) | fail)
              have hB3 : Below w1.heap.size w1 w3 := Below.grown (hbW.trans (Below.mono (by (repeat (first | with_reducible exact Below.refl _ _ | with_reducible exact hb2 | (refine Below.alloc ?_ (by first | (simp; done) | (simp; omega) | omega) _) | (refine Below.drew ?_) | (refine Below.setCell ?_ (by first | (simp; done) | (simp; omega)) _)))) hbW.size)) hg3.out (by first | (simp; omega) | omega) (fun g hg => (HBS.out g hg).1)
              have ho3' : w3.ownsRow w1.heap.size 122 4 (.slice a3 (m + 1) c3) (m + 1) ((table bs (es.take (m + 1)) []).flatMap evCells) := by
                have := ho3.out
                rw [HSN.out, HE.out, List.flatMap_append]
                simpa using this
              clear ho3 hg3 hl3
              go_wp2_with fail
              go_roundw
              case rel => exact ⟨m + 1, a3, c3, by omega, by go_num, rfl, ho3', hB3⟩
              case measure => (simp [intOf]; omega)
          · obtain ⟨ia, ea⟩ := Int.eq_ofNat_of_zero_le h2
            obtain ⟨ib, eb⟩ := Int.eq_ofNat_of_zero_le h4
            have hia : ia < tab.length := by omega
            have hib : ib < tab.length := by omega
            obtain ⟨x, hx⟩ : ∃ x, tab[ia]? = some x := ⟨tab[ia], by simp [hia]⟩
            obtain ⟨y, hy⟩ : ∃ y, tab[ib]? = some y := ⟨tab[ib], by simp [hib]⟩
            have fx : fits x.val.num = true := HFk.out x (List.mem_of_getElem? hx)
            have fy : fits y.val.num = true := HFk.out y (List.mem_of_getElem? hy)
            have HE := hidE (ev1_2 (bs := bs) (tab := tab) kd)
            rw [ea, eb, Int.toNat_natCast, Int.toNat_natCast, show tab.getD ia zEv = x from by simp [List.getD, hx], show tab.getD ib zEv = y from by simp [List.getD, hy]] at HE
            obtain ⟨b', o', rfl, _, t0, t1, t2, t3⟩ := (EvsAt.owns HO.out).get hx
            obtain ⟨b'', o'', e', _, s0, s1, s2, s3⟩ := (EvsAt.owns HO.out).get hy
            simp only [Option.some.injEq, Addr.mk.injEq, and_true] at e'
            obtain ⟨rfl, rfl⟩ := e'
            have hbl : b' < wr.heap.size := World.block_lt_of_cell? wr ⟨b', _, none⟩ t0
            have HO6 := hidE (fun W => l6Op_any e.op x y W h1 fx fy)
            have HXB := hidE (fun o1 x0 x1 x2 x3 => Bx4.made2 wr o1 122 x0 x1 x2 x3)
            generalize ev1 bs tab e = EE at HSN HE
            generalize evOp e.op x y = F at HE HO6
            unfold evV at HO6
            have HLL := hidE hln
            have hn1 : b' ≠ wr.heap.size + 1 := by omega
            have hn2 : wr.heap.size ≠ wr.heap.size + 1 := by omega
            have i1 : (ia : Int) < (m : Int) := by omega
            have i2 : (ib : Int) < (m : Int) := by omega
            rw [kd] at c0
            rw [ea] at c6
            rw [eb] at c7
            clear kd hln hb2 h1 h2 h3 h4 h5 ea eb hx hy fx fy hia hib
            go_wp2_with fail
            go_region_held3 (fun w' => w'.cell? ⟨wr.heap.size, 1, none⟩ = some (.int .u8 e.op) ∧ w'.cell? ⟨wr.heap.size, 6, none⟩ = some (.int .i64 (ia : Int)) ∧ w'.cell? ⟨wr.heap.size, 7, none⟩ = some (.int .i64 (ib : Int)) ∧ w'.cell? ⟨b', o' + ia * 4, none⟩ = some (.int .i64 x.code) ∧ w'.cell? ⟨b', o' + ia * 4 + 1, none⟩ = some (.int .i64 x.val.kind) ∧ w'.cell? ⟨b', o' + ia * 4 + 2, none⟩ = some (.int .i64 x.val.num) ∧ w'.cell? ⟨b', o' + ia * 4 + 3, none⟩ = some (.string x.val.sym) ∧ w'.cell? ⟨b', o' + ib * 4, none⟩ = some (.int .i64 y.code) ∧ w'.cell? ⟨b', o' + ib * 4 + 1, none⟩ = some (.int .i64 y.val.kind) ∧ w'.cell? ⟨b', o' + ib * 4 + 2, none⟩ = some (.int .i64 y.val.num) ∧ w'.cell? ⟨b', o' + ib * 4 + 3, none⟩ = some (.string y.val.sym))
              (first | (go_split_ands; (refine ⟨?_, ?_, ?_, ?_, ?_, ?_, ?_, ?_, ?_, ?_, ?_⟩ <;> first | with_reducible assumption | with_reducible exact cell_below hb2' (by assumption) | with_reducible exact cell_set4 (by assumption) hn1 | with_reducible exact cell_set4 (by assumption) hn2 | with_reducible exact cell_below (HA2.out _ _).drew (by assumption) | (simp [go_sem]; done)); done) | fail)
              (first | (go_at_call 138; with_reducible refine (HO6.out _).mono ?_; rintro r w2 ⟨rfl, hb2'⟩; have hb2 := (HA2.out _ _).drew.trans (hb2'.mono (HA2.out _ _).drew.size); obtain ⟨⟨f0, f1, f2, f3⟩, ⟨z0, z1, z2, z3⟩, hlt2⟩ := (((HXB.out _ _ _ _ _).bel (Below.refl _ _).drew).bel hb2').facts) | fail)
            clear hb2' HO6 HXB t0 t1 t2 t3 s0 s1 s2 s3 c0 c1 c2 c3 c4 c5 c6 c7
            go_wp2_with (first | (at_builtin; refine wpList_append_any (by rfl) (.tmp 125) (.tmp 127) 202 (by rfl) w1.heap.size 122 _ 4 40 Try.underlying202 infoEv7 (by rfl) (by omega) _ m _ (by rfl) (HOW.out _ (by (repeat (first | with_reducible exact Below.refl _ _ | with_reducible exact hb2 | (refine Below.alloc ?_ (by first | (simp; done) | (simp; omega) | omega) _) | (refine Below.drew ?_) | (refine Below.setCell ?_ (by first | (simp; done) | (simp; omega)) _))))) (some ⟨_, 0, none⟩) 1 1 (by rfl) (evCells F) (by rfl) (fun e => by cases e) (news_allocW _ _ _ _ (by simp)) (evCells_one F) (by unfold maxLen; omega) (by omega) (by first | (simp; omega) | omega) ?_; intro a3 c3 w3 ho3 hg3 hl3) | fail)
            have hB3 : Below w1.heap.size w1 w3 := Below.grown (hbW.trans (Below.mono (by (repeat (first | with_reducible exact Below.refl _ _ | with_reducible exact hb2 | (refine Below.alloc ?_ (by first | (simp; done) | (simp; omega) | omega) _) | (refine Below.drew ?_) | (refine Below.setCell ?_ (by first | (simp; done) | (simp; omega)) _)))) hbW.size)) hg3.out (by first | (simp; omega) | omega) (fun g hg => (HBS.out g hg).1)
            have ho3' : w3.ownsRow w1.heap.size 122 4 (.slice a3 (m + 1) c3) (m + 1) ((table bs (es.take (m + 1)) []).flatMap evCells) := by
              have := ho3.out
              rw [HSN.out, HE.out, List.flatMap_append]
              simpa using this
            clear ho3 hg3 hl3
            go_wp2_with fail
            go_roundw
            case rel => exact ⟨m + 1, a3, c3, by omega, by go_num, rfl, ho3', hB3⟩
            case measure => (simp [intOf]; omega)
        · have hmm : m = i + 1 := by omega
          have HLI := hidE (HLN.out (i + 1))
          have HXE : Hid (evalX es bs i = (table bs (es.take (i + 1)) []).getD i zEv) := show evalX es bs i = _ from by
            unfold evalX
            rw [Int.toNat_natCast, if_pos (by have := HI60.out; omega), if_pos (by rw [← HT.out]; exact HSD.out)]
          rw [hmm] at HO
          obtain ⟨tab, hTb⟩ : ∃ tab, tab = table bs (es.take (i + 1)) [] := ⟨_, rfl⟩
          rw [← hTb] at HLI HXE HO
          have hln : tab.length = i + 1 := by rw [HLI.out]; have := HI60.out; simp; omega
          obtain ⟨E, hE⟩ : ∃ E, tab[i]? = some E := ⟨tab[i]'(by omega), by simp⟩
          have HE : Hid (evalX es bs i = E) := show evalX es bs i = E from by rw [HXE.out]; simp [List.getD, hE]
          obtain ⟨b', o', rfl, _, d0, d1, d2, d3⟩ := (EvsAt.owns HO.out).get hE
          obtain ⟨⟨f0, f1, f2, f3⟩, ⟨z0, z1, z2, z3⟩, hlt2⟩ := (HBX1.out.below hbW hlt).facts
          have hml : (i : Int) < (m : Int) := by omega
          have hmn : ¬ (m : Int) ≤ (i : Int) := by omega
          clear hTb hE HXE HLI HLN HFT HSG hmm hln
          go_wp2_with fail
          refine bodyPost_ret (v := evV E) (by simp [results, Try.results75, go_sem, f0, f1, f2, f3, evV]) rfl ⟨by rw [HE.out], ?_⟩
          exact (((hW.setCell (by simp) _).setCell (by simp) _).setCell (by simp) _).setCell (by simp) _
theorem sEval_any (es : List Ex) (a : Option Addr) (c : Nat) (a2 : Option Addr) (cb : Nat) (bs : List Bd) (i : Int) {q q' : Option Nat} (w : World) (hv : ExsAt q w a es) (hb : BdsAt q' w a2 bs) (hl : es.length ≤ 1048576) (hl2 : bs.length ≤ 1048576) (ho : OpsOkE es) (hfe : ∀ e ∈ es, fits e.val.num = true) (hfb : ∀ b ∈ bs, fits b.val.num = true) :
    Calls Try.prog 75 #[.slice a es.length c, .slice a2 bs.length cb, .int .i64 i] w fun r w' => r = .returned (evV (evalX es bs i)) ∧ Below w.heap.size w w' := by
  by_cases h : 0 ≤ i ∧ i < (es.length : Int) ∧ es.length ≤ 60
  · obtain ⟨n, rfl⟩ := Int.eq_ofNat_of_zero_le h.1
    exact sEval_go es a c a2 cb bs n w hv hb hl2 (by omega) h.2.2 ho hfe hfb
  · exact sEval_no es a c a2 bs.length cb bs i w hl (by omega)
end Go.Proofs.Ytpiglmkpmlogjaa

/-
  OUR OWN TEXT. Tw, Ti, one behind the other.
-/
import Derived.Test.YtgamdkokmkagaaaJv
import Derived.Deep.QuietTactic
import Derived.BigQuiet
namespace Go.Proofs.Ytgamdkokmkagaaa
open Go.RowKit Go.Maps
attribute [local go_sem ↓] Go.wp_at_zero Go.wp_at_succ

/-- Does f, not the one that leaves, bar a fact of that class and those slots? -/
def bars (but : Int) (cls : ByteArray) (vs : List V) (f : F) : Bool := decide (f.tag ≠ but) && (decide (f.cls = cls) && decide (f.slots = vs))
def twinTag (but : Int) (cls : ByteArray) (vs : List V) : List F → Int
  | [] => 0
  | f :: r => if bars but cls vs f then f.tag else twinTag but cls vs r
def twinOf (sg : Bool) (but : Int) (cls : ByteArray) (vs : List V) (fs : List F) : Int := if sg then twinTag but cls vs fs else 0

theorem twinTag_pos {but : Int} {cls : ByteArray} {vs : List V} : ∀ {fs : List F} {last : Int}, 0 ≤ last → gFrom last fs = true → twinTag but cls vs fs = 0 ∨ 0 < twinTag but cls vs fs
  | [], _, _, _ => .inl rfl
  | f :: r, last, hl, h => by
    simp only [gFrom, okF, Bool.and_eq_true, decide_eq_true_eq] at h
    unfold twinTag
    split
    · exact .inr (by omega)
    · exact twinTag_pos (last := f.tag) (by omega) h.2

set_option maxHeartbeats 1600000 in
theorem l1Alike_any (a : Option Addr) (c : Nat) (fs : List F) (nx cp : Int) (sg : Bool) (but : Int) (cls : ByteArray) (sa : Option Addr) (sc : Nat) (vs : List V) (w : World) (hv : FactsAt w a fs) (hsv : ValsAt w sa vs) (hl : fs.length ≤ 1048576) (hs : ∀ f ∈ fs, f.slots.length ≤ 1048576) :
    Calls Try.prog 73 #[.agg #[.slice a fs.length c, .int .i64 nx, .int .i64 cp, .bool sg], .int .i64 but, .string cls, .slice sa vs.length sc] w fun e w' =>
      e = .returned (.int .i64 (twinOf sg but cls vs fs)) ∧ Below w.heap.size w w' := by
  have B1 : ∀ o, Below w.heap.size w (w.alloc o) := fun o => (Below.refl _ _).alloc (Nat.le_refl _) _
  go_enter Try.func73, Try.ntmps73
  go_wp2
  go_loopw [14] (fun i wr => ∃ (k : Nat), k ≤ fs.length ∧ i = .int .i64 k ∧ twinOf sg but cls vs fs = twinOf sg but cls vs (fs.drop k) ∧ Below (w.heap.size + 1) (w.alloc (.cells #[.slice a fs.length c, .int .i64 nx, .int .i64 cp, .bool sg] 26)) wr) (fun i _ => fs.length - (intOf i).toNat)
  case atStart => exact ⟨0, by omega, rfl, rfl, Below.refl _ _⟩
  case round =>
    obtain ⟨k, hk, rfl, hG, hb⟩ := hrel
    have HG := hidden' hG
    clear hG
    have hb0 := hb
    rw [← World.size_alloc w (.cells #[.slice a fs.length c, .int .i64 nx, .int .i64 cp, .bool sg] 26)] at hb0
    have hbw : Below w.heap.size w wr := (B1 _).trans (hb0.mono (by simp))
    by_cases hkl : k < fs.length
    · obtain ⟨f, hfk⟩ : ∃ f, fs[k]? = some f := ⟨fs[k], by simp [hkl]⟩
      obtain ⟨b, o, rfl, c0, c1, s, cs, c2, hsl⟩ := hv.below hbw k f hfk
      have HD := hidden' (drop_cons hfk)
      have hsf := hs f (List.mem_of_getElem? hfk)
      have r3 : wr.cell? ⟨w.heap.size, 3, none⟩ = some (.bool sg) := cell_below hb0 (by simp [go_sem])
      have hzr : w.heap.size + 1 ≤ wr.heap.size := by have := hb0.size; simpa using this
      have hbo : ∀ o, Below wr.heap.size wr (wr.alloc o) := fun o => (Below.refl _ _).alloc (Nat.le_refl _) _
      have hsv2 := hsv.below hbw
      have hz3 : w.heap.size < wr.heap.size := by omega
      cases sg
      · go_wp2
        go_roundw
        case rel => exact ⟨k + 1, by omega, by go_num, by rw [HG.out]; rfl, hb.alloc hzr _⟩
        case measure => simp [intOf]; omega
      · cases ht : (f.tag != but)
        · have hbar : bars but cls vs f = false := by unfold bars; simp at ht; simp [ht]
          have HT := hidden' (show twinOf true but cls vs (fs.drop k) = twinOf true but cls vs (fs.drop (k + 1)) by rw [HD.out]; show (if bars but cls vs f then f.tag else _) = _; rw [hbar]; rfl)
          go_wp2
          go_roundw
          case rel => exact ⟨k + 1, by omega, by go_num, by rw [HG.out, HT.out], hb.alloc hzr _⟩
          case measure => simp [intOf]; omega
        · cases hcl : (f.cls.toList == cls.toList)
          · have hbar : bars but cls vs f = false := by rw [bytes_beq] at hcl; unfold bars; rw [hcl]; simp
            have HT := hidden' (show twinOf true but cls vs (fs.drop k) = twinOf true but cls vs (fs.drop (k + 1)) by rw [HD.out]; show (if bars but cls vs f then f.tag else _) = _; rw [hbar]; rfl)
            go_wp2
            go_roundw
            case rel => exact ⟨k + 1, by omega, by go_num, by rw [HG.out, HT.out], hb.alloc hzr _⟩
            case measure => simp [intOf]; omega
          · have hbar : bars but cls vs f = decide (f.slots = vs) := by rw [bytes_beq] at hcl; unfold bars; rw [hcl]; simp at ht; simp [ht]
            have HT := hidden' (show twinOf true but cls vs (fs.drop k) = if decide (f.slots = vs) then f.tag else twinOf true but cls vs (fs.drop (k + 1)) by rw [HD.out]; show (if bars but cls vs f then f.tag else _) = _; rw [hbar]; rfl)
            cases hss : decide (f.slots = vs)
            · go_wp2_with (go_at_call 68; refine (l1SameSlots_any s sa cs sc f.slots vs _ (hsl.below (hbo _)) (hsv2.below (hbo _)) hsf).mono ?_; rintro e w3 ⟨rfl, hb3⟩)
              go_roundw
              case rel => exact ⟨k + 1, by omega, by go_num, by rw [HG.out, HT.out, hss]; rfl, (hb.alloc hzr _).trans (hb3.mono (by simp; omega))⟩
              case measure => simp [intOf]; omega
            · go_wp2_with (go_at_call 68; refine (l1SameSlots_any s sa cs sc f.slots vs _ (hsl.below (hbo _)) (hsv2.below (hbo _)) hsf).mono ?_; rintro e w3 ⟨rfl, hb3⟩; obtain ⟨hc3, hf3⟩ := bcell hb3)
              go_ret
              exact ⟨ret_int (by rw [HG.out, HT.out, hss]; rfl), (hbw.alloc (by omega) _).trans (hb3.mono (by simp; omega))⟩
    · go_wp2
      go_ret
      exact ⟨ret_int (by rw [HG.out, List.drop_eq_nil_of_le (by omega)]; cases sg <;> rfl), hbw⟩
end Go.Proofs.Ytgamdkokmkagaaa

namespace Go.Proofs.Ytgamdkokmkagaaa
open Go.RowKit Go.Maps
attribute [local go_sem ↓] Go.wp_at_zero Go.wp_at_succ

set_option maxRecDepth 100000 in
theorem key_eql {f g : F} (hf : KOk f) (hg : KOk g) (w : World) : (binOp .eql 232 (.agg (keyCells f).toArray) (.agg (keyCells g).toArray)).run Try.prog w = .ok (.bool (decide (f.cls = g.cls) && decide (f.slots = g.slots))) w := by
  obtain ⟨kl, K⟩ := KL.exist
  obtain ⟨r, hr, hiff⟩ := run_equal_deep (P := Try.prog) w (m := 5) (by omega) (k := 232) (by kernel_rfl) wideK (K f hf) (K g hg)
  rw [run_eql_struct]
  have e : (Op.equalIn 10000 232 (.agg (keyCells f).toArray) (.agg (keyCells g).toArray)).run Try.prog w = .ok r w := hr
  rw [e]
  show Result.ok (Value.bool r) w = _
  rw [klit_iff K hf hg, like_eq] at hiff
  have : r = (decide (f.cls = g.cls) && decide (f.slots = g.slots)) := by
    cases r
    · have h2 : ¬ (f.cls = g.cls ∧ f.slots = g.slots) := fun h => by cases hiff.2 h
      symm
      simpa [Bool.and_eq_false_iff] using h2
    · obtain ⟨h1, h2⟩ := hiff.1 rfl
      simp [h1, h2]
  rw [this]

theorem key_len {f : F} (hl : f.slots.length ≤ 6) : (keyCells f).length = 20 := by unfold keyCells; rw [keyOn_len, pad_len _ hl]

/-- The cells of a block; the block of a pointer. -/
def blkL (w : World) (b : Nat) : List Value := match w.heap[b]? with | some (.cells c _ _) => c.toList | _ => []
def ptrBlk : Value → Nat
  | .pointer (some p) => p.block
  | _ => 0
theorem blkL_of {w : World} {b : Nat} {L : List Value} {t : TypeId} {fr : Nat × Nat} (h : w.heap[b]? = some (.cells L.toArray t fr)) : blkL w b = L := by simp [blkL, h]
theorem blkL_below {w w' : World} {b : Nat} {L : List Value} (h : blkL w b = L) (hb : Below w.heap.size w w') (hlt : b < w.heap.size) : blkL w' b = L := by
  unfold blkL at h ⊢
  rw [hb.block b hlt]
  exact h
theorem key_load (ρ : Operand → Value) (dst : Option Tmp) (x : Operand) (ty : TypeId) (pos : String) (after : Array Edge) (guard : Option (Nat × Bool)) (w : World) (hx : ρ x = .pointer (some ⟨ptrBlk (ρ x), 0, none⟩)) (hl : (blkL w (ptrBlk (ρ x))).length = 20) :
    (execOp ρ ⟨dst, .load 232 x, ty, pos, after, guard⟩).run Try.prog w = .ok (.value (.agg (blkL w (ptrBlk (ρ x))).toArray)) w := by
  have hr : w.rangeAt (ptrBlk (ρ x)) 0 (blkL w (ptrBlk (ρ x))) := by
    intro j v hv
    unfold blkL at hv
    split at hv
    · rename_i c t fr hh
      simp [World.cell?, hh]
      simpa using hv
    · simp at hv
  have := run_loadAt_mid (P := Try.prog) w (ptrBlk (ρ x)) 0 232 (blkL w (ptrBlk (ρ x))) _ hr Try.underlying232 rfl (by rw [hl]; exact infoK)
  rw [← hx] at this
  simp only [execOp, Sem.run_bind, this, Result.andThen_ok, Sem.run_pure]
attribute [local go_sem ↓] key_load
attribute [local go_sem] ptrBlk

set_option maxRecDepth 100000 in
set_option maxHeartbeats 1600000 in
theorem twin_any (a : Option Addr) (c : Nat) (fs : List F) (nx cp : Int) (sg : Bool) (g : F) (sa : Option Addr) (sc : Nat) (but : Int) (w : World) (hv : FactsAt w a fs) (hsv : ValsAt w sa g.slots) (hl : fs.length ≤ 1048576) (hk : ∀ f ∈ fs, KOk f) (hg : KOk g) :
    Calls Try.prog 167 #[.agg #[.slice a fs.length c, .int .i64 nx, .int .i64 cp, .bool sg], .agg #[.int .i64 g.tag, .string g.cls, .slice sa g.slots.length sc], .int .i64 but] w fun e w' =>
      e = .returned (.int .i64 (twinOf sg but g.cls g.slots fs)) ∧ Below w.heap.size w w' := by
  have B2 : ∀ o o', Below w.heap.size w ((w.alloc o).alloc o') := fun o o' => ((Below.refl _ _).alloc (Nat.le_refl _) _).alloc (by simp) _
  cases sg
  · go_enter Try.func167, Try.ntmps167
    go_wp2
    go_ret
    exact ⟨rfl, B2 _ _⟩
  · have HL := hidden' (key_len hg.2.1)
    go_enter Try.func167, Try.ntmps167
    go_wp2_with (first | (go_at_call 173; refine (key_any g sa sc _ (hsv.below (B2 _ _)) hg.2.1).mono ?_; rintro e w1 ⟨rfl, hb1⟩; obtain ⟨hc1, hf1⟩ := bcell hb1) | (refine wpList_store_blk (by rfl) 232 (.tmp 7) (.tmp 14) (by rfl) w1.heap.size (keyCells g) (by rfl) (by rfl) _ 232 (new_blk _ _ _ rfl) (by rw [HL.out]; rfl) (by rw [HL.out]; exact infoK) (keyOn_one _ _ _) ?_; intro w2 hh2 ht2; have r0 : w2.cell? ⟨w.heap.size, 0, none⟩ = some (.slice a fs.length c) := cell_below (new_below ht2.out) (cell_below hb1 (by simp [go_sem]))) | fail)
    have hB1 : Below w.heap.size w w1 := (B2 _ _).trans (hb1.mono (by simp; omega))
    have hB2 : Below w.heap.size w w2 := hB1.trans ((new_below ht2.out).mono hB1.size)
    have hv2 := hv.below hB2
    have hz2 := new_size ht2.out
    have HH := hidden' hh2.out
    clear hc1 hf1 hb1 ht2 r0 hh2
    go_loopw [18] (fun i wr => ∃ (k : Nat), k ≤ fs.length ∧ i = .int .i64 k ∧ twinTag but g.cls g.slots fs = twinTag but g.cls g.slots (fs.drop k) ∧ Below w2.heap.size w2 wr) (fun i _ => fs.length - (intOf i).toNat)
    case atStart => exact ⟨0, by omega, rfl, rfl, Below.refl _ _⟩
    case round =>
      obtain ⟨k, hk', rfl, hG, hb⟩ := hrel
      have HG := hidden' hG
      clear hG
      by_cases hkl : k < fs.length
      · obtain ⟨f, hfk⟩ : ∃ f, fs[k]? = some f := ⟨fs[k], by simp [hkl]⟩
        obtain ⟨b, o, rfl, c0, c1, s, cs, c2, hsl⟩ := hv2.below hb k f hfk
        have HD := hidden' (drop_cons hfk)
        have hkf := hk f (List.mem_of_getElem? hfk)
        have hwr : w1.heap.size < wr.heap.size := by have := hb.size; omega
        have hH2 : ∀ o, blkL (wr.alloc o).drew w1.heap.size = keyCells g := fun o => blkL_of (w := wr.alloc o) ((Below.heap_alloc _ _ _ hwr).trans (blk_below HH.out hb))
        have hLL : (keyCells g).length = 20 := HL.out
        have heq := fun w' => key_eql hkf hg w'
        have hbo : ∀ o, Below wr.heap.size wr (wr.alloc o) := fun o => (Below.refl _ _).alloc (Nat.le_refl _) _
        by_cases ht : f.tag = but
        · have hbar : bars but g.cls g.slots f = false := by unfold bars; simp [ht]
          have HT := hidden' (show twinTag but g.cls g.slots (fs.drop k) = twinTag but g.cls g.slots (fs.drop (k + 1)) by rw [HD.out]; show (if bars but g.cls g.slots f then f.tag else _) = _; rw [hbar]; rfl)
          clear heq hLL hbar
          subst ht
          go_wp2
          go_quiet (fail)
          have hBq : Below w2.heap.size w2 ((wr.alloc (.cells #[.int .i64 f.tag, .string f.cls, .slice s f.slots.length cs] 117)).drewN nq) := below_drewN (hb.alloc hb.size _) _
          go_wp2
          go_roundw
          case rel => exact ⟨k + 1, by omega, by go_num, by rw [HG.out, HT.out], hBq⟩
          case measure => simp [intOf]; omega
        · have hbar : bars but g.cls g.slots f = (decide (f.cls = g.cls) && decide (f.slots = g.slots)) := by unfold bars; simp [ht]
          have htb : (f.tag != but) = true := by simpa using ht
          have HT := hidden' (show twinTag but g.cls g.slots (fs.drop k) = if (decide (f.cls = g.cls) && decide (f.slots = g.slots)) then f.tag else twinTag but g.cls g.slots (fs.drop (k + 1)) by rw [HD.out]; show (if bars but g.cls g.slots f then f.tag else _) = _; rw [hbar])
          clear hbar
          generalize hB : (decide (f.cls = g.cls) && decide (f.slots = g.slots)) = r at heq HT
          cases r
          · go_wp2
            go_region_held3 (fun w' => w'.cell? ⟨wr.heap.size, 0, none⟩ = some (.int .i64 f.tag) ∧ w'.cell? ⟨wr.heap.size, 1, none⟩ = some (.string f.cls) ∧ w'.cell? ⟨wr.heap.size, 2, none⟩ = some (.slice s f.slots.length cs) ∧ blkL w' w1.heap.size = keyCells g)
              ((go_split_ands; refine ⟨?_, ?_, ?_, ?_⟩ <;> first | with_reducible exact cell_below hb3 (by assumption) | (with_reducible refine blkL_below (by assumption) hb3 ?_; simp; omega) | exact hH2 _ | (simp [go_sem]; done)))
              ((go_at_call 173; refine (key_any f s cs _ (hsl.below ?_) hkf.2.1).mono ?_; exact (hbo _).drew; rintro e w3 ⟨rfl, hb3⟩))
            have hB3 : Below w2.heap.size w2 w3 := (hb.alloc hb.size _).drew.trans (hb3.mono (by have := hb.size; simp; omega))
            go_wp2
            go_roundw
            case rel => exact ⟨k + 1, by omega, by go_num, by rw [HG.out, HT.out]; rfl, hB3⟩
            case measure => simp [intOf]; omega
          · go_wp2
            go_region_held3 (fun w' => w'.cell? ⟨wr.heap.size, 0, none⟩ = some (.int .i64 f.tag) ∧ w'.cell? ⟨wr.heap.size, 1, none⟩ = some (.string f.cls) ∧ w'.cell? ⟨wr.heap.size, 2, none⟩ = some (.slice s f.slots.length cs) ∧ blkL w' w1.heap.size = keyCells g)
              ((go_split_ands; refine ⟨?_, ?_, ?_, ?_⟩ <;> first | with_reducible exact cell_below hb3 (by assumption) | (with_reducible refine blkL_below (by assumption) hb3 ?_; simp; omega) | exact hH2 _ | (simp [go_sem]; done)))
              ((go_at_call 173; refine (key_any f s cs _ (hsl.below ?_) hkf.2.1).mono ?_; exact (hbo _).drew; rintro e w3 ⟨rfl, hb3⟩))
            have hB3 : Below w2.heap.size w2 w3 := (hb.alloc hb.size _).drew.trans (hb3.mono (by have := hb.size; simp; omega))
            go_wp2
            go_ret
            exact ⟨ret_int (by show f.tag = twinTag but g.cls g.slots fs; rw [HG.out, HT.out]; rfl), hB2.trans (hB3.mono hB2.size)⟩
      · go_wp2
        go_ret
        exact ⟨ret_int (by show 0 = twinTag but g.cls g.slots fs; rw [HG.out, List.drop_eq_nil_of_le (by omega)]; rfl), hB2.trans (hb.mono hB2.size)⟩
end Go.Proofs.Ytgamdkokmkagaaa

/-
  OUR OWN TEXT. The fact that bars another: the model's search, and the program's.
-/
import Derived.Test.YtlkfmbpbgnhcjabHf
namespace Go.Proofs.Ytlkfmbpbgnhcjab
open Go.RowKit Go.Maps
attribute [local go_sem ↓] Go.wp_at_zero Go.wp_at_succ

/-- Does f, not the one that leaves, bar a fact of that class and those slots? -/
def bars (but : Int) (cls : ByteArray) (vs : List V) (f : F) : Bool := decide (f.tag ≠ but) && (decide (f.cls = cls) && decide (f.slots = vs))
def twinTag (but : Int) (cls : ByteArray) (vs : List V) : List F → Int
  | [] => 0
  | f :: r => if bars but cls vs f then f.tag else twinTag but cls vs r
def twinOf (sg : Bool) (but : Int) (cls : ByteArray) (vs : List V) (fs : List F) : Int := if sg then twinTag but cls vs fs else 0

theorem twinTag_pos {but : Int} {cls : ByteArray} {vs : List V} : ∀ {fs : List F} {last : Int}, 0 ≤ last → gFrom last fs = true → twinTag but cls vs fs = 0 ∨ 0 < twinTag but cls vs fs
  | [], _, _, _ => .inl rfl
  | f :: r, last, hl, h => by
    simp only [gFrom, okF, Bool.and_eq_true, decide_eq_true_eq] at h
    unfold twinTag
    split
    · exact .inr (by omega)
    · exact twinTag_pos (last := f.tag) (by omega) h.2

set_option maxHeartbeats 1600000 in
theorem l1Alike_any (a : Option Addr) (c : Nat) (fs : List F) (nx cp : Int) (sg : Bool) (but : Int) (cls : ByteArray) (sa : Option Addr) (sc : Nat) (vs : List V) (w : World) (hv : FactsAt w a fs) (hsv : ValsAt w sa vs) (hl : fs.length ≤ 1048576) (hs : ∀ f ∈ fs, f.slots.length ≤ 1048576) :
    Calls Try.prog 55 #[.agg #[.slice a fs.length c, .int .i64 nx, .int .i64 cp, .bool sg], .int .i64 but, .string cls, .slice sa vs.length sc] w fun e w' =>
      e = .returned (.int .i64 (twinOf sg but cls vs fs)) ∧ Below w.heap.size w w' := by
  have B1 : ∀ o, Below w.heap.size w (w.alloc o) := fun o => (Below.refl _ _).alloc (Nat.le_refl _) _
  go_enter Try.func55, Try.ntmps55
  go_wp2
  go_loopw [14] (fun i wr => ∃ (k : Nat), k ≤ fs.length ∧ i = .int .i64 k ∧ twinOf sg but cls vs fs = twinOf sg but cls vs (fs.drop k) ∧ Below (w.heap.size + 1) (w.alloc (.cells #[.slice a fs.length c, .int .i64 nx, .int .i64 cp, .bool sg] 26)) wr) (fun i _ => fs.length - (intOf i).toNat)
  case atStart => exact ⟨0, by omega, rfl, rfl, Below.refl _ _⟩
  case round =>
    obtain ⟨k, hk, rfl, hG, hb⟩ := hrel
    have HG := hidden' hG
    clear hG
    have hb0 := hb
    rw [← World.size_alloc w (.cells #[.slice a fs.length c, .int .i64 nx, .int .i64 cp, .bool sg] 26)] at hb0
    have hbw : Below w.heap.size w wr := (B1 _).trans (hb0.mono (by simp))
    by_cases hkl : k < fs.length
    · obtain ⟨f, hfk⟩ : ∃ f, fs[k]? = some f := ⟨fs[k], by simp [hkl]⟩
      obtain ⟨b, o, rfl, c0, c1, s, cs, c2, hsl⟩ := hv.below hbw k f hfk
      have HD := hidden' (drop_cons hfk)
      have hsf := hs f (List.mem_of_getElem? hfk)
      have r3 : wr.cell? ⟨w.heap.size, 3, none⟩ = some (.bool sg) := cell_below hb0 (by simp [go_sem])
      have hzr : w.heap.size + 1 ≤ wr.heap.size := by have := hb0.size; simpa using this
      have hbo : ∀ o, Below wr.heap.size wr (wr.alloc o) := fun o => (Below.refl _ _).alloc (Nat.le_refl _) _
      have hsv2 := hsv.below hbw
      have hz3 : w.heap.size < wr.heap.size := by omega
      cases sg
      · go_wp2
        go_roundw
        case rel => exact ⟨k + 1, by omega, by go_num, by rw [HG.out]; rfl, hb.alloc hzr _⟩
        case measure => simp [intOf]; omega
      · cases ht : (f.tag != but)
        · have hbar : bars but cls vs f = false := by unfold bars; simp at ht; simp [ht]
          have HT := hidden' (show twinOf true but cls vs (fs.drop k) = twinOf true but cls vs (fs.drop (k + 1)) by rw [HD.out]; show (if bars but cls vs f then f.tag else _) = _; rw [hbar]; rfl)
          go_wp2
          go_roundw
          case rel => exact ⟨k + 1, by omega, by go_num, by rw [HG.out, HT.out], hb.alloc hzr _⟩
          case measure => simp [intOf]; omega
        · cases hcl : (f.cls.toList == cls.toList)
          · have hbar : bars but cls vs f = false := by rw [bytes_beq] at hcl; unfold bars; rw [hcl]; simp
            have HT := hidden' (show twinOf true but cls vs (fs.drop k) = twinOf true but cls vs (fs.drop (k + 1)) by rw [HD.out]; show (if bars but cls vs f then f.tag else _) = _; rw [hbar]; rfl)
            go_wp2
            go_roundw
            case rel => exact ⟨k + 1, by omega, by go_num, by rw [HG.out, HT.out], hb.alloc hzr _⟩
            case measure => simp [intOf]; omega
          · have hbar : bars but cls vs f = decide (f.slots = vs) := by rw [bytes_beq] at hcl; unfold bars; rw [hcl]; simp at ht; simp [ht]
            have HT := hidden' (show twinOf true but cls vs (fs.drop k) = if decide (f.slots = vs) then f.tag else twinOf true but cls vs (fs.drop (k + 1)) by rw [HD.out]; show (if bars but cls vs f then f.tag else _) = _; rw [hbar]; rfl)
            cases hss : decide (f.slots = vs)
            · go_wp2_with (go_at_call 48; refine (l1SameSlots_any s sa cs sc f.slots vs _ (hsl.below (hbo _)) (hsv2.below (hbo _)) hsf).mono ?_; rintro e w3 ⟨rfl, hb3⟩)
              go_roundw
              case rel => exact ⟨k + 1, by omega, by go_num, by rw [HG.out, HT.out, hss]; rfl, (hb.alloc hzr _).trans (hb3.mono (by simp; omega))⟩
              case measure => simp [intOf]; omega
            · go_wp2_with (go_at_call 48; refine (l1SameSlots_any s sa cs sc f.slots vs _ (hsl.below (hbo _)) (hsv2.below (hbo _)) hsf).mono ?_; rintro e w3 ⟨rfl, hb3⟩; obtain ⟨hc3, hf3⟩ := bcell hb3)
              go_ret
              exact ⟨ret_int (by rw [HG.out, HT.out, hss]; rfl), (hbw.alloc (by omega) _).trans (hb3.mono (by simp; omega))⟩
    · go_wp2
      go_ret
      exact ⟨ret_int (by rw [HG.out, List.drop_eq_nil_of_le (by omega)]; cases sg <;> rfl), hbw⟩
end Go.Proofs.Ytlkfmbpbgnhcjab

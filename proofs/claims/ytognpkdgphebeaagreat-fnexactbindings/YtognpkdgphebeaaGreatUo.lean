/-
  OUR OWN TEXT. Mm6, Mm7, one behind the other.
-/
import Derived.Test.YtognpkdgphebeaaGreatOb
namespace Go.Proofs.YtognpkdgphebeaaGreat
open Go.RowKit
attribute [local go_sem ↓] Go.wp_at_zero Go.wp_at_succ

def holdsM (r : Ru) (fs : List F) (tags : List Int) : Bool := ready [r] fs && (allM r.pats fs [⟨[], []⟩] 0).1.any (fun x => decide (x.tags = tags))
theorem cells5M {w : World} {b : Nat} {ty : TypeId} {x0 x1 x2 x3 x4 : Value} (h : w.heap[b]? = some (.cells #[x0, x1, x2, x3, x4] ty (0, 0))) : w.cell? ⟨b, 0, none⟩ = some x0 ∧ w.cell? ⟨b, 1, none⟩ = some x1 ∧ w.cell? ⟨b, 2, none⟩ = some x2 ∧ w.cell? ⟨b, 3, none⟩ = some x3 ∧ w.cell? ⟨b, 4, none⟩ = some x4 := by
  refine ⟨?_, ?_, ?_, ?_, ?_⟩ <;> simp [World.cell?, h]
end Go.Proofs.YtognpkdgphebeaaGreat

namespace Go.Proofs.YtognpkdgphebeaaGreat
open Go.RowKit
attribute [local go_sem ↓] Go.wp_at_zero Go.wp_at_succ

/-- The binds of the match with these tags; none where there is none. -/
def bindsM (r : Ru) (fs : List F) (tags : List Int) : List Bd := if ready [r] fs = true then (((allM r.pats fs [⟨[], []⟩] 0).1.find? (fun x => decide (x.tags = tags))).map (·.binds)).getD [] else []
theorem find_at {α : Type} {p : α → Bool} : ∀ {l : List α} {k : Nat} {x : α}, l[k]? = some x → p x = true → (∀ y ∈ l.take k, p y = false) → l.find? p = some x
  | [], _, _, h, _, _ => by simp at h
  | y :: r, 0, x, h, hp, _ => by
    simp at h
    subst h
    simp [hp]
  | y :: r, k + 1, x, h, hp, hn => by
    have h1 := hn y (by simp)
    rw [List.find?_cons_of_neg (by rw [h1]; simp)]
    exact find_at (by simpa using h) hp (fun z hz => hn z (by simp [hz]))
/-- What the model's Bindings leaves. -/
def BnPost (bs : List Bd) (w : World) (e : Ending) (w' : World) : Prop := (∃ a c, e = .returned (.slice a bs.length c) ∧ w'.ownsRow w.heap.size 106 4 (.slice a bs.length c) bs.length (bs.flatMap bdCells)) ∧ Below w.heap.size w w'
theorem BnPost.mk {bs o : List Bd} {w w' : World} {a : Option Addr} {c : Nat} (h1 : bs = o) (h2 : w'.ownsRow w.heap.size 106 4 (.slice a o.length c) o.length (o.flatMap bdCells)) (h3 : Below w.heap.size w w') : BnPost bs w (.returned (.slice a o.length c)) w' := by
  subst h1
  exact ⟨⟨a, c, rfl, h2⟩, h3⟩
theorem BnPost.nil {bs : List Bd} {w w' : World} (h1 : bs = []) (h3 : Below w.heap.size w w') : BnPost bs w (.returned (.slice none 0 0)) w' := by
  subst h1
  exact ⟨⟨none, 0, rfl, World.ownsRow_nil _ _ _ _⟩, h3⟩
set_option maxHeartbeats 3200000 in
theorem sBindings_any (r : Ru) (fs : List F) (tags : List Int) (a_p : Option Addr) (c_p : Nat) (a_e : Option Addr) (c_e : Nat) (a_a : Option Addr) (c_a : Nat) (fa : Option Addr) (fc : Nat) (ta : Option Addr) (tc : Nat) {q q' : Option Nat} (w : World) (h_p : PtsAt q w a_p r.pats) (h_e : ExsAt q w a_e r.exprs) (h_a : AcsAt q w a_a r.acts) (hce : r.exprs.length ≤ c_e) (hle : ListLe Ru.le 1048576 [r]) (ho : OpsOk r.exprs) (h_f : FactsAt w fa fs) (hl : fs.length ≤ 1048576) (hs : ∀ f ∈ fs, Sized f) (h_t : IntsAt q' w ta tags) :
    Calls Tryz.prog 17 #[.agg #[.string r.name, .int .i64 r.sal, .slice a_p r.pats.length c_p, .slice a_e r.exprs.length c_e, .slice a_a r.acts.length c_a], .slice fa fs.length fc, .slice ta tags.length tc] w (BnPost (bindsM r fs tags) w) := by
  have HP := hidM h_p
  have HF := hidM h_f
  have HTG := hidM h_t
  have HR := hidM (fun wt (hb : Below w.heap.size w wt) k (h : wt.heap[k]? = some (.cells #[.string r.name, .int .i64 r.sal, .slice a_p r.pats.length c_p, .slice a_e r.exprs.length c_e, .slice a_a r.acts.length c_a] 36 (0, 0))) => l4Ready_any [r] fs (some ⟨k, 0, none⟩) 1 fa fc wt (RusAt.one h (h_p.below hb).bare (h_e.below hb).bare (h_a.below hb).bare hce) (Nat.le_refl _) hle (by intro x hx; simp at hx; subst hx; exact ho) (h_f.below hb) hl hs)
  clear h_p h_e h_a h_f hs hle ho h_t
  go_enter Tryz.func17, Tryz.ntmps17
  go_upto_region 1 with fail
  refine lift_alloc ?_
  intro w0 hW0 hq0
  obtain ⟨b0, b1, b2, b3, b4⟩ := cells5M hq0
  have H0 := hidM hW0
  have HA := hidM (fun o => (Below.refl _ _).alloc (Nat.le_refl _) o : ∀ o, Below w0.heap.size w0 (w0.alloc o))
  have HN := hidM (heap_alloc_new w0)
  have hs0 := hW0.size
  clear hW0 hq0
  by_cases hrd : ready [r] fs = true
  · have HT := hidM (show bindsM r fs tags = (((allM r.pats fs [⟨[], []⟩] 0).1.find? (fun x => decide (x.tags = tags))).map (·.binds)).getD [] by unfold bindsM; rw [if_pos hrd])
    obtain ⟨hck, hgf, hf40⟩ := ready_small hrd
    obtain ⟨hp6, ht6, _⟩ := chk_small hck (List.mem_singleton.2 rfl)
    have HT6 := hidM ht6
    rw [hrd] at HR
    have hall := allM_len fs hf40 r.pats [⟨[], []⟩] 0
    have h416 : 41 ^ r.pats.length ≤ 41 ^ 6 := Nat.pow_le_pow_right (by omega) hp6
    clear hck hgf ht6 hrd
    go_wp2_with fail
    refine (HR.out _ (H0.out.trans ((HA.out _).mono H0.out.size)) _ (HN.out _)).mono ?_
    rintro e w1 ⟨rfl, hb1⟩
    have B1 := hidM (Below.trans (HA.out _) (hb1.mono (HA.out _).size))
    have W1 := hidM (H0.out.trans (B1.out.mono H0.out.size))
    have d0 := cell_below B1.out b0
    have d1 := cell_below B1.out b1
    have d2 := cell_below B1.out b2
    have d3 := cell_below B1.out b3
    have d4 := cell_below B1.out b4
    clear hb1 b0 b1 b2 b3 b4
    have HL := hidM (l4All_any r fs a_p c_p a_e c_e a_a c_a fa fc w1 (HP.out.below W1.out) (HF.out.below W1.out) hp6 HT6.out hf40)
    go_wp2_with fail
    refine HL.out.mono ?_
    rintro e w2 ⟨⟨a, c, M, rfl, hM, hm⟩, hb2⟩
    have W2 := hidM (W1.out.trans (hb2.mono W1.out.size))
    have MM := hidM hM
    have HML := hidM (show M.length ≤ 4750104241 by have := congrArg List.length hm; simp at this hall h416; omega)
    have HTL := hidM (show ∀ x ∈ M, x.1.tags.length ≤ 1048576 by
      intro x hx
      have := (allM_small fs r.pats [⟨[], []⟩] 0 0 0 (by intro y hy; simp at hy; subst hy; simp) HT6.out x.1 (by rw [← hm]; exact List.mem_map_of_mem hx)).1
      omega)
    rw [← hm] at HT
    clear hM hm hb2 HL d0 d1 d2 d3 d4 hall h416
    go_wp2_with fail
    go_loopw [24] (fun iv wr => ∃ (k : Nat), iv = .int .i64 (k : Int) ∧ k ≤ M.length ∧ (∀ x ∈ M.take k, x.1.tags ≠ tags) ∧ Below w2.heap.size w2 wr) (fun iv _ => M.length - (intOf iv).toNat)
    case atStart => exact ⟨0, rfl, Nat.zero_le _, by simp, Below.refl _ _⟩
    case round =>
      obtain ⟨k, rfl, hkl, hno, hb⟩ := hrel
      have HNO := hidM hno
      have BB := hidM hb
      have BW := hidM (W2.out.trans (hb.mono W2.out.size))
      have MR := hidM (MM.out.bel hb)
      have hml := HML.out
      clear hno hb
      by_cases hk : k < M.length
      · obtain ⟨x, hx⟩ : ∃ x, M[k]? = some x := ⟨M[k], by simp [hk]⟩
        obtain ⟨⟨tg, bd⟩, tv, bv⟩ := x
        obtain ⟨lb, rfl, hlb, y0, y1⟩ := MR.out.get hx
        obtain ⟨⟨ta', tc', e1⟩, ⟨ba, bc, e2⟩, hot, hob⟩ := MR.out.all _ (List.mem_of_getElem? hx)
        simp only at e1 e2 hot hob y0 y1
        subst e1 e2
        have OT := hidM (IntsAt.owns hot)
        have OB := hidM hob
        have HYES := hidM (fun (h : tg = tags) => (show bindsM r fs tags = bd by rw [HT.out, find_at (p := fun x : Pm => decide (x.tags = tags)) (k := k) (x := (⟨tg, bd⟩ : Pm)) (by rw [List.getElem?_map, hx]; rfl) (decide_eq_true h) (by intro y hy; rw [← List.map_take] at hy; obtain ⟨z, hz, rfl⟩ := List.mem_map.1 hy; exact decide_eq_false (HNO.out z hz))]; rfl))
        have HNXT := hidM (fun (h : tg ≠ tags) => (show ∀ x ∈ M.take (k + 1), x.1.tags ≠ tags by intro x hx'; rw [List.take_add_one, hx] at hx'; rcases List.mem_append.1 hx' with h' | h'; exact HNO.out x h'; simp at h'; subst h'; exact h))
        have htl : tg.length ≤ 1048576 := HTL.out _ (List.mem_of_getElem? hx)
        have z0 : (0 : Int) ≤ (k : Int) := by omega
        have z1 : (k : Int) < (M.length : Int) := by omega
        clear hx hot hob HNO
        go_upto_region 7 with fail
        refine lift_alloc ?_
        intro w4 hW4 hq4
        obtain ⟨f0, f1⟩ := cells2M hq4
        have B4 := hidM (BB.out.trans (hW4.mono BB.out.size))
        have W4 := hidM (BW.out.trans (hW4.mono BW.out.size))
        have HS := hidM (l4SameTags_any ta' ta tc' tc tg tags w4 (OT.out.below hW4) (HTG.out.below W4.out) htl)
        have OB4 := hidM (own_bel OB.out hW4)
        clear hW4 hq4 y0 y1 OT OB BB BW MR
        by_cases ht : tg = tags
        · rw [decide_eq_true ht] at HS
          replace HYES := hidM (HYES.out ht)
          clear ht HNXT
          go_wp2_with fail
          refine HS.out.mono ?_
          rintro e w5 ⟨rfl, hb5⟩
          have W5 := hidM (W4.out.trans (hb5.mono W4.out.size))
          have OB5 := hidM (owns_base (own_bel OB4.out hb5) W1.out.size)
          have f1' := cell_below hb5 f1
          clear hb5 HS
          go_wp2_with fail
          go_ret
          exact BnPost.mk HYES.out OB5.out W5.out
        · rw [decide_eq_false ht] at HS
          replace HNXT := hidM (HNXT.out ht)
          clear ht HYES
          go_wp2_with fail
          refine HS.out.mono ?_
          rintro e w5 ⟨rfl, hb5⟩
          have B5 := hidM (B4.out.trans (hb5.mono B4.out.size))
          clear hb5 HS
          go_wp2_with fail
          go_roundw
          case rel => exact ⟨k + 1, by go_num, by omega, HNXT.out, B5.out⟩
          case measure => (simp [intOf]; omega)
      · have hke : k = M.length := by omega
        subst hke
        have hy : ¬ (M.length : Int) < (M.length : Int) := by omega
        have HNN := hidM (show bindsM r fs tags = [] by rw [HT.out, List.find?_eq_none.2 (by intro y hy; obtain ⟨z, hz, rfl⟩ := List.mem_map.1 hy; have := HNO.out; rw [List.take_length] at this; simpa using this z hz)]; rfl)
        go_wp2_with fail
        go_ret
        exact BnPost.nil HNN.out BW.out
  · have HT := hidM (show bindsM r fs tags = [] by unfold bindsM; rw [if_neg hrd])
    rw [show ready [r] fs = false by simpa using hrd] at HR
    clear hrd
    go_wp2_with fail
    refine (HR.out _ (H0.out.trans ((HA.out _).mono H0.out.size)) _ (HN.out _)).mono ?_
    rintro e w1 ⟨rfl, hb1⟩
    have B1 := hidM (Below.trans (HA.out _) (hb1.mono (HA.out _).size))
    have W1 := hidM (H0.out.trans (B1.out.mono H0.out.size))
    clear hb1
    go_wp2_with fail
    go_ret
    exact BnPost.nil HT.out W1.out
end Go.Proofs.YtognpkdgphebeaaGreat

/-
  OUR OWN TEXT. Mm6, Pq9, one behind the other.
-/
import Derived.Test.YtognpkdgphebeaaGreatOb
import Derived.Test.YtognpkdgphebeaaGreatUh
namespace Go.Proofs.YtognpkdgphebeaaGreat
open Go.RowKit
attribute [local go_sem ↓] Go.wp_at_zero Go.wp_at_succ

def holdsM (r : Ru) (fs : List F) (tags : List Int) : Bool := ready [r] fs && (allM r.pats fs [⟨[], []⟩] 0).1.any (fun x => decide (x.tags = tags))
theorem cells5M {w : World} {b : Nat} {ty : TypeId} {x0 x1 x2 x3 x4 : Value} (h : w.heap[b]? = some (.cells #[x0, x1, x2, x3, x4] ty (0, 0))) : w.cell? ⟨b, 0, none⟩ = some x0 ∧ w.cell? ⟨b, 1, none⟩ = some x1 ∧ w.cell? ⟨b, 2, none⟩ = some x2 ∧ w.cell? ⟨b, 3, none⟩ = some x3 ∧ w.cell? ⟨b, 4, none⟩ = some x4 := by
  refine ⟨?_, ?_, ?_, ?_, ?_⟩ <;> simp [World.cell?, h]
set_option maxHeartbeats 3200000 in
theorem sHolds_any (r : Ru) (fs : List F) (tags : List Int) (a_p : Option Addr) (c_p : Nat) (a_e : Option Addr) (c_e : Nat) (a_a : Option Addr) (c_a : Nat) (fa : Option Addr) (fc : Nat) (ta : Option Addr) (tc : Nat) {q q' : Option Nat} (w : World) (h_p : PtsAt q w a_p r.pats) (h_e : ExsAt q w a_e r.exprs) (h_a : AcsAt q w a_a r.acts) (hce : r.exprs.length ≤ c_e) (hle : ListLe Ru.le 1048576 [r]) (ho : OpsOk r.exprs) (h_f : FactsAt w fa fs) (hl : fs.length ≤ 1048576) (hs : ∀ f ∈ fs, Sized f) (h_t : IntsAt q' w ta tags) :
    Calls Tryz.prog 9 #[.agg #[.string r.name, .int .i64 r.sal, .slice a_p r.pats.length c_p, .slice a_e r.exprs.length c_e, .slice a_a r.acts.length c_a], .slice fa fs.length fc, .slice ta tags.length tc] w fun e w' => e = .returned (.bool (holdsM r fs tags)) ∧ Below w.heap.size w w' := by
  have HP := hidM h_p
  have HF := hidM h_f
  have HTG := hidM h_t
  have HR := hidM (fun wt (hb : Below w.heap.size w wt) k (h : wt.heap[k]? = some (.cells #[.string r.name, .int .i64 r.sal, .slice a_p r.pats.length c_p, .slice a_e r.exprs.length c_e, .slice a_a r.acts.length c_a] 36 (0, 0))) => l4Ready_any [r] fs (some ⟨k, 0, none⟩) 1 fa fc wt (RusAt.one h (h_p.below hb).bare (h_e.below hb).bare (h_a.below hb).bare hce) (Nat.le_refl _) hle (by intro x hx; simp at hx; subst hx; exact ho) (h_f.below hb) hl hs)
  clear h_p h_e h_a h_f hs hle ho h_t
  go_enter Tryz.func9, Tryz.ntmps9
  go_upto_region 1 with fail
  refine lift_alloc ?_
  intro w0 hW0 hq0
  obtain ⟨b0, b1, b2, b3, b4⟩ := cells5M hq0
  have H0 := hidM hW0
  have HA := hidM (fun o => (Below.refl _ _).alloc (Nat.le_refl _) o : ∀ o, Below w0.heap.size w0 (w0.alloc o))
  have HN := hidM (heap_alloc_new w0)
  have hs0 := hW0.size
  clear hW0 hq0
  by_cases hrd : ready [r] fs = true
  · have HT := hidM (show holdsM r fs tags = (allM r.pats fs [⟨[], []⟩] 0).1.any (fun x => decide (x.tags = tags)) by unfold holdsM; rw [hrd]; rfl)
    obtain ⟨hck, hgf, hf40⟩ := ready_small hrd
    obtain ⟨hp6, ht6, _⟩ := chk_small hck (List.mem_singleton.2 rfl)
    have HT6 := hidM ht6
    rw [hrd] at HR
    have hall := allM_len fs hf40 r.pats [⟨[], []⟩] 0
    have h416 : 41 ^ r.pats.length ≤ 41 ^ 6 := Nat.pow_le_pow_right (by omega) hp6
    clear hck hgf ht6 hrd
    go_wp2_with fail
    refine (HR.out _ (H0.out.trans ((HA.out _).mono H0.out.size)) _ (HN.out _)).mono ?_
    rintro e w1 ⟨rfl, hb1⟩
    have B1 := hidM (Below.trans (HA.out _) (hb1.mono (HA.out _).size))
    have W1 := hidM (H0.out.trans (B1.out.mono H0.out.size))
    have d0 := cell_below B1.out b0
    have d1 := cell_below B1.out b1
    have d2 := cell_below B1.out b2
    have d3 := cell_below B1.out b3
    have d4 := cell_below B1.out b4
    clear hb1 b0 b1 b2 b3 b4
    have HL := hidM (l4All_any r fs a_p c_p a_e c_e a_a c_a fa fc w1 (HP.out.below W1.out) (HF.out.below W1.out) hp6 HT6.out hf40)
    go_wp2_with fail
    refine HL.out.mono ?_
    rintro e w2 ⟨⟨a, c, M, rfl, hM, hm⟩, hb2⟩
    have W2 := hidM (W1.out.trans (hb2.mono W1.out.size))
    have MM := hidM hM
    have HML := hidM (show M.length ≤ 4750104241 by have := congrArg List.length hm; simp at this hall h416; omega)
    have HTL := hidM (show ∀ x ∈ M, x.1.tags.length ≤ 1048576 by
      intro x hx
      have := (allM_small fs r.pats [⟨[], []⟩] 0 0 0 (by intro y hy; simp at hy; subst hy; simp) HT6.out x.1 (by rw [← hm]; exact List.mem_map_of_mem hx)).1
      omega)
    rw [← hm] at HT
    clear hM hm hb2 HL d0 d1 d2 d3 d4 hall h416
    go_wp2_with fail
    go_loopw [24] (fun iv wr => ∃ (k : Nat), iv = .int .i64 (k : Int) ∧ k ≤ M.length ∧ (∀ x ∈ M.take k, x.1.tags ≠ tags) ∧ Below w2.heap.size w2 wr) (fun iv _ => M.length - (intOf iv).toNat)
    case atStart => exact ⟨0, rfl, Nat.zero_le _, by simp, Below.refl _ _⟩
    case round =>
      obtain ⟨k, rfl, hkl, hno, hb⟩ := hrel
      have HNO := hidM hno
      have BB := hidM hb
      have BW := hidM (W2.out.trans (hb.mono W2.out.size))
      have MR := hidM (MM.out.bel hb)
      have hml := HML.out
      clear hno hb
      by_cases hk : k < M.length
      · obtain ⟨x, hx⟩ : ∃ x, M[k]? = some x := ⟨M[k], by simp [hk]⟩
        obtain ⟨⟨tg, bd⟩, tv, bv⟩ := x
        obtain ⟨lb, rfl, hlb, y0, y1⟩ := MR.out.get hx
        obtain ⟨⟨ta', tc', e1⟩, ⟨ba, bc, e2⟩, hot, _⟩ := MR.out.all _ (List.mem_of_getElem? hx)
        simp only at e1 e2 hot y0 y1
        subst e1 e2
        have OT := hidM (IntsAt.owns hot)
        have HYES := hidM (fun (h : tg = tags) => (show holdsM r fs tags = true by rw [HT.out]; exact List.any_eq_true.2 ⟨⟨tg, bd⟩, List.mem_map.2 ⟨_, List.mem_of_getElem? hx, rfl⟩, decide_eq_true h⟩))
        have HNXT := hidM (fun (h : tg ≠ tags) => (show ∀ x ∈ M.take (k + 1), x.1.tags ≠ tags by intro x hx'; rw [List.take_add_one, hx] at hx'; rcases List.mem_append.1 hx' with h' | h'; exact HNO.out x h'; simp at h'; subst h'; exact h))
        have htl : tg.length ≤ 1048576 := HTL.out _ (List.mem_of_getElem? hx)
        have z0 : (0 : Int) ≤ (k : Int) := by omega
        have z1 : (k : Int) < (M.length : Int) := by omega
        clear hx hot HNO
        go_upto_region 7 with fail
        refine lift_alloc ?_
        intro w4 hW4 hq4
        obtain ⟨f0, f1⟩ := cells2M hq4
        have B4 := hidM (BB.out.trans (hW4.mono BB.out.size))
        have W4 := hidM (BW.out.trans (hW4.mono BW.out.size))
        have HS := hidM (l4SameTags_any ta' ta tc' tc tg tags w4 (OT.out.below hW4) (HTG.out.below W4.out) htl)
        clear hW4 hq4 y0 y1 OT BB BW MR
        by_cases ht : tg = tags
        · rw [decide_eq_true ht] at HS
          replace HYES := hidM (HYES.out ht)
          clear ht HNXT
          go_wp2_with fail
          refine HS.out.mono ?_
          rintro e w5 ⟨rfl, hb5⟩
          have W5 := hidM (W4.out.trans (hb5.mono W4.out.size))
          clear hb5 HS
          go_wp2_with fail
          go_ret
          exact ⟨ret_bool HYES.out.symm, W5.out⟩
        · rw [decide_eq_false ht] at HS
          replace HNXT := hidM (HNXT.out ht)
          clear ht HYES
          go_wp2_with fail
          refine HS.out.mono ?_
          rintro e w5 ⟨rfl, hb5⟩
          have B5 := hidM (B4.out.trans (hb5.mono B4.out.size))
          clear hb5 HS
          go_wp2_with fail
          go_roundw
          case rel => exact ⟨k + 1, by go_num, by omega, HNXT.out, B5.out⟩
          case measure => (simp [intOf]; omega)
      · have hke : k = M.length := by omega
        subst hke
        have hy : ¬ (M.length : Int) < (M.length : Int) := by omega
        have HNN := hidM (show holdsM r fs tags = false by rw [HT.out]; have := HNO.out; rw [List.take_length] at this; simpa using fun a b c (h : (a, b, c) ∈ M) => this (a, b, c) h)
        go_wp2_with fail
        go_ret
        exact ⟨ret_bool HNN.out.symm, BW.out⟩
  · have HT := hidM (show holdsM r fs tags = false by unfold holdsM; rw [show ready [r] fs = false by simpa using hrd]; rfl)
    rw [show ready [r] fs = false by simpa using hrd] at HR
    clear hrd
    go_wp2_with fail
    refine (HR.out _ (H0.out.trans ((HA.out _).mono H0.out.size)) _ (HN.out _)).mono ?_
    rintro e w1 ⟨rfl, hb1⟩
    have B1 := hidM (Below.trans (HA.out _) (hb1.mono (HA.out _).size))
    have W1 := hidM (H0.out.trans (B1.out.mono H0.out.size))
    clear hb1
    go_wp2_with fail
    go_ret
    exact ⟨ret_bool HT.out.symm, W1.out⟩
end Go.Proofs.YtognpkdgphebeaaGreat

namespace Go.Proofs.YtognpkdgphebeaaGreat

theorem any_tags {ps : List Pt} {fs : List F} {tags : List Int} (hk : KnR ps [] 0) : ((allM ps fs [⟨[], []⟩] 0).1.any (fun x => decide (x.tags = tags)) = true) ↔ ∃ U ∈ exts (planGo ps [] 0) fs [], U.map (·.tag) = tags := by
  have h := exts_eq fs ps [] [] 0 hk rfl (fun x hx => by simp at hx)
  have h' : (allM ps fs [⟨[], []⟩] 0).1.map (·.tags) = (exts (planGo ps [] 0) fs []).map (fun U => U.map (·.tag)) := h
  rw [List.any_eq_true]
  constructor
  · rintro ⟨x, hx, hd⟩
    have hm : x.tags ∈ (allM ps fs [⟨[], []⟩] 0).1.map (·.tags) := List.mem_map.2 ⟨x, hx, rfl⟩
    rw [h'] at hm
    obtain ⟨U, hU, he⟩ := List.mem_map.1 hm
    exact ⟨U, hU, he.trans (of_decide_eq_true hd)⟩
  · rintro ⟨U, hU, he⟩
    have hm : U.map (·.tag) ∈ (exts (planGo ps [] 0) fs []).map (fun U => U.map (·.tag)) := List.mem_map.2 ⟨U, hU, rfl⟩
    rw [← h'] at hm
    obtain ⟨x, hx, hx2⟩ := List.mem_map.1 hm
    exact ⟨x, hx, decide_eq_true (hx2.trans he)⟩
theorem exts_mem {ps : List Pt} {fs : List F} {U : List F} : U ∈ exts (planGo ps [] 0) fs [] ↔ (U.length = positives ps ∧ (∀ f ∈ U, f ∈ fs) ∧ (planGo ps [] 0).all (okP fs U) = true) := mem_exts fs ps [] [] U (fun x hx => by simp at hx)
theorem map_tag_inj {fs : List F} (hd : ∀ f ∈ fs, ∀ g ∈ fs, f.tag = g.tag → f = g) : ∀ (U W : List F), (∀ f ∈ U, f ∈ fs) → (∀ f ∈ W, f ∈ fs) → U.map (·.tag) = W.map (·.tag) → U = W
  | [], [], _, _, _ => rfl
  | [], _ :: _, _, _, h => by simp at h
  | _ :: _, [], _, _, h => by simp at h
  | a :: U, b :: W, hU, hW, h => by
    simp only [List.map_cons, List.cons.injEq] at h
    rw [hd a (hU a List.mem_cons_self) b (hW b List.mem_cons_self) h.1, map_tag_inj hd U W (fun f hf => hU f (List.mem_cons_of_mem _ hf)) (fun f hf => hW f (List.mem_cons_of_mem _ hf)) h.2]
/-- The tags of facts that are there. -/
theorem holds_found {r : Ru} {fs W : List F} (hr : ready [r] fs = true) (hd : ∀ f ∈ fs, ∀ g ∈ fs, f.tag = g.tag → f = g) (hW : ∀ f ∈ W, f ∈ fs) (hlen : W.length = positives r.pats) : holdsM r fs (W.map (·.tag)) = (planGo r.pats [] 0).all (okP fs W) := by
  have hk : KnR r.pats [] 0 := chk_known (ready_small hr).1 (List.mem_singleton.2 rfl)
  unfold holdsM
  rw [hr, Bool.true_and]
  have h1 := any_tags (fs := fs) (tags := W.map (·.tag)) hk
  cases ho : (planGo r.pats [] 0).all (okP fs W)
  · cases ha : (allM r.pats fs [⟨[], []⟩] 0).1.any (fun x => decide (x.tags = W.map (·.tag)))
    · rfl
    · obtain ⟨U, hU, he⟩ := h1.1 ha
      obtain ⟨u1, u2, u3⟩ := exts_mem.1 hU
      rw [map_tag_inj hd U W u2 hW he, ho] at u3
      cases u3
  · exact h1.2 ⟨W, exts_mem.2 ⟨hlen, hW, ho⟩, rfl⟩
/-- Another number of tags. -/
theorem holds_number {r : Ru} {fs : List F} {tags : List Int} (hlen : tags.length ≠ positives r.pats) : holdsM r fs tags = false := by
  unfold holdsM
  cases hr : ready [r] fs
  · rfl
  · rw [Bool.true_and]
    have hk : KnR r.pats [] 0 := chk_known (ready_small hr).1 (List.mem_singleton.2 rfl)
    cases ha : (allM r.pats fs [⟨[], []⟩] 0).1.any (fun x => decide (x.tags = tags))
    · rfl
    · obtain ⟨U, hU, he⟩ := (any_tags hk).1 ha
      obtain ⟨u1, _, _⟩ := exts_mem.1 hU
      exact absurd (by rw [← he, List.length_map, u1]) hlen
/-- A tag that no fact has. -/
theorem holds_lost {r : Ru} {fs : List F} {tags : List Int} {t : Int} (ht : t ∈ tags) (hno : ∀ f ∈ fs, f.tag ≠ t) : holdsM r fs tags = false := by
  unfold holdsM
  cases hr : ready [r] fs
  · rfl
  · rw [Bool.true_and]
    have hk : KnR r.pats [] 0 := chk_known (ready_small hr).1 (List.mem_singleton.2 rfl)
    cases ha : (allM r.pats fs [⟨[], []⟩] 0).1.any (fun x => decide (x.tags = tags))
    · rfl
    · obtain ⟨U, hU, he⟩ := (any_tags hk).1 ha
      obtain ⟨_, u2, _⟩ := exts_mem.1 hU
      rw [← he] at ht
      obtain ⟨f, hf, hf2⟩ := List.mem_map.1 ht
      exact absurd hf2 (hno f (u2 f hf))
end Go.Proofs.YtognpkdgphebeaaGreat

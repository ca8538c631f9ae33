/-
  OUR OWN TEXT. Mm1, Mm2, one behind the other.
-/
import Derived.Test.YtmmdlgjmplddiaaGreatGbm
import Derived.Test.YtmmdlgjmplddiaaGreatGaa
import Derived.Deep.DeepCutAuto
namespace Go.Proofs.YtmmdlgjmplddiaaGreat
open Go.RowKit
attribute [local go_sem ↓] Go.wp_at_zero Go.wp_at_succ

theorem hidM {p : Prop} (h : p) : Hid p := h
def bdCells (b : Bd) : List Value := [.string b.var, .int .i64 b.val.kind, .int .i64 b.val.num, .string b.val.sym]
theorem bdFlat_len : ∀ S : List Bd, (S.flatMap bdCells).length = S.length * 4
  | [] => rfl
  | b :: r => by
    rw [List.flatMap_cons, List.length_append, bdFlat_len r]
    simp [bdCells]
    omega
theorem bd_one (bs : List Bd) : ∀ x ∈ bs.flatMap bdCells, x.oneCell' = true := by
  intro x hx
  obtain ⟨b, _, hb⟩ := List.mem_flatMap.1 hx
  simp [bdCells] at hb
  rcases hb with rfl | rfl | rfl | rfl <;> rfl
theorem bd_at (bs : List Bd) (j : Nat) (x : Value) (h : (bs.flatMap bdCells)[j]? = some x) : ∃ b, bs[j / 4]? = some b ∧ (bdCells b)[j % 4]? = some x := by
  induction bs generalizing j with
  | nil => simp at h
  | cons b r ih =>
    have hlen : (bdCells b).length = 4 := rfl
    rw [List.flatMap_cons] at h
    by_cases hj : j < 4
    · rw [List.getElem?_append_left (by omega)] at h
      refine ⟨b, ?_, ?_⟩
      · rw [show j / 4 = 0 by omega]; rfl
      · rwa [show j % 4 = j by omega]
    · rw [List.getElem?_append_right (by omega)] at h
      obtain ⟨u, h1, h2⟩ := ih (j - (bdCells b).length) h
      rw [hlen] at h1 h2
      refine ⟨u, ?_, ?_⟩
      · rw [show j / 4 = (j - 4) / 4 + 1 by omega]; exact h1
      · rwa [show j % 4 = (j - 4) % 4 by omega]
theorem BdsAt.flat {q : Option Nat} {w : World} {ad : Addr} {bs : List Bd} (h : BdsAt q w (some ad) bs) (j : Nat) (x : Value) (hx : (bs.flatMap bdCells)[j]? = some x) : w.cell? (ad.add j) = some x := by
  obtain ⟨b, hb, hc⟩ := bd_at bs j x hx
  obtain ⟨g, o, r, he, _, _, h4, hR⟩ := h _ b hb
  cases he
  have hR' : r = bdCells b := hR
  rw [Addr.add_mid]
  have := h4 (j % 4) x (by rw [hR']; exact hc)
  rw [show o + j = o + j / 4 * 4 + j % 4 by omega]
  exact this
theorem BdsAt.nil' {q : Option Nat} {w : World} {bs : List Bd} (h : BdsAt q w none bs) : bs.length = 0 := by
  cases bs with
  | nil => rfl
  | cons v r =>
    obtain ⟨b, o, _, he, _⟩ := h 0 v rfl
    cases he
theorem BdsAt.owns {w : World} {base : Nat} {a : Option Addr} {c : Nat} {S : List Bd} (h : w.ownsRow base 220 4 (.slice a S.length c) S.length (S.flatMap bdCells)) : BdsAt none w a S := by
  intro i s hi
  have key := fun j u (hj : (bdCells s)[j]? = some u) => owns_cell h (flat_gen (cells := bdCells) (m := 4) (fun _ => rfl) S i s j u hi hj)
  obtain ⟨g, rfl, _, _, _⟩ := key 0 _ rfl
  refine ⟨g, 0, bdCells s, rfl, Qb.bare _ _ _, rfl, fun j v hj => ?_, rfl⟩
  obtain ⟨g', e, _, hc, _⟩ := key j v hj
  cases e
  rw [Nat.zero_add]
  exact hc
theorem infoBdF : (Tryz.prog.info? 220).map (fun i => (i.zero, i.size, i.bytes)) = some (some (.agg #[.string ⟨#[]⟩, .int .i64 0, .int .i64 0, .string ⟨#[]⟩]), 4, 48) := by kernel_rfl
theorem lift2aN {P : World → Prop} {w : World} {o1 o2 : Obj} (h : ∀ wt, Below w.heap.size w wt → wt.heap[w.heap.size]? = some o1 → wt.heap[w.heap.size + 1]? = some o2 → P wt) : P ((w.alloc o1).alloc o2) :=
  h _ (((Below.refl _ _).alloc (Nat.le_refl _) _).alloc (by simp) _) ((Below.heap_alloc _ _ _ (by simp)).trans (heap_alloc_new _ _)) (by have := heap_alloc_new (w.alloc o1) o2; simpa using this)
theorem cells3M {w : World} {b : Nat} {ty : TypeId} {x0 x1 x2 : Value} (h : w.heap[b]? = some (.cells #[x0, x1, x2] ty (0, 0))) : w.cell? ⟨b, 0, none⟩ = some x0 ∧ w.cell? ⟨b, 1, none⟩ = some x1 ∧ w.cell? ⟨b, 2, none⟩ = some x2 := by
  refine ⟨?_, ?_, ?_⟩ <;> simp [World.cell?, h]
theorem cells6M {w : World} {b : Nat} {ty : TypeId} {x0 x1 x2 x3 x4 x5 : Value} (h : w.heap[b]? = some (.cells #[x0, x1, x2, x3, x4, x5] ty (0, 0))) : w.cell? ⟨b, 0, none⟩ = some x0 ∧ w.cell? ⟨b, 1, none⟩ = some x1 ∧ w.cell? ⟨b, 2, none⟩ = some x2 ∧ w.cell? ⟨b, 3, none⟩ = some x3 ∧ w.cell? ⟨b, 4, none⟩ = some x4 ∧ w.cell? ⟨b, 5, none⟩ = some x5 := by
  refine ⟨?_, ?_, ?_, ?_, ?_, ?_⟩ <;> simp [World.cell?, h]
theorem emM : (⟨#[]⟩ : ByteArray).toList = [] := by kernel_rfl
theorem V.ext3 {v u : V} (h0 : v.kind = u.kind) (h1 : v.num = u.num) (h2 : v.sym.toList = u.sym.toList) : v = u := by
  have h3 : (v.sym.toList == u.sym.toList) = true := by rw [h2]; simp
  rw [bytes_beq] at h3
  exact V.same h0 h1 (by simpa using h3)
theorem cell_ltM {w : World} {b o : Nat} {x : Value} (h : w.cell? ⟨b, o, none⟩ = some x) : b < w.heap.size := by
  by_cases hp : b < w.heap.size
  · exact hp
  · have : w.heap[b]? = none := Array.getElem?_eq_none (by omega)
    simp [World.cell?, this] at h

theorem lift_b3 {P : World → Prop} {w : World} {b : Nat} {t : TypeId} {x0 x1 x2 y0 y1 y2 : Value} (h0 : w.heap[b]? = some (.cells #[x0, x1, x2] t (0, 0))) (h : ∀ wt, wt.heap[b]? = some (.cells #[y0, y1, y2] t (0, 0)) → Turned w wt b → P wt) : P (((w.setCell ⟨b, 0, none⟩ y0).setCell ⟨b, 1, none⟩ y1).setCell ⟨b, 2, none⟩ y2) := by
  have h1 := heap_setCell_same (i := 0) h0 y0
  have h2 := heap_setCell_same (i := 1) h1 y1
  have h3 := heap_setCell_same (i := 2) h2 y2
  exact h _ (by simpa using h3) (Turned.setCells [y0, y1, y2] 0 w b)
/-- What the model's l4Agree leaves. -/
def AgPost (p : Pt) (f : F) (bs : List Bd) (w : World) (e : Ending) (w' : World) : Prop :=
  (match agree p f bs with
    | none => e = .returned (.tuple #[.slice none 0 0, .bool false])
    | some o => ∃ a c, e = .returned (.tuple #[.slice a o.length c, .bool true]) ∧ w'.ownsRow w.heap.size 220 4 (.slice a o.length c) o.length (o.flatMap bdCells)) ∧ Below w.heap.size w w'
theorem AgPost.no {p : Pt} {f : F} {bs : List Bd} {w w' : World} (h : agree p f bs = none) (hb : Below w.heap.size w w') : AgPost p f bs w (.returned (.tuple #[.slice none 0 0, .bool false])) w' := by
  unfold AgPost
  rw [h]
  exact ⟨rfl, hb⟩
theorem AgPost.yes {p : Pt} {f : F} {bs o : List Bd} {w w' : World} {a : Option Addr} {c : Nat} (h : agree p f bs = some o) (ho : w'.ownsRow w.heap.size 220 4 (.slice a o.length c) o.length (o.flatMap bdCells)) (hb : Below w.heap.size w w') : AgPost p f bs w (.returned (.tuple #[.slice a o.length c, .bool true])) w' := by
  unfold AgPost
  rw [h]
  exact ⟨⟨a, c, rfl, ho⟩, hb⟩
set_option maxRecDepth 100000 in
set_option maxHeartbeats 12800000 in
theorem l4Agree_any (p : Pt) (f : F) (bs : List Bd) (a_t : Option Addr) (c_t : Nat) (fa : Option Addr) (fc : Nat) (ba : Option Addr) (bc : Nat) {q q' : Option Nat} (w : World) (h_t : TmsAt q w a_t p.terms) (h_f : ValsAt w fa f.slots) (h_b : BdsAt q' w ba bs) (ht6 : p.terms.length ≤ 6) (hbl : bs.length ≤ 1000) :
    Calls Tryz.prog 99 #[.agg #[.bool p.neg, .string p.cls, .slice a_t p.terms.length c_t], .agg #[.int .i64 f.tag, .string f.cls, .slice fa f.slots.length fc], .slice ba bs.length bc] w (AgPost p f bs w) := by
  have HT := hidM h_t
  have HF := hidM h_f
  have HB := hidM h_b
  clear h_t h_f h_b
  have B2 := hidM (fun o o1 => ((Below.refl _ _).alloc (Nat.le_refl _) _).alloc (by simp) _ : ∀ o o1, Below w.heap.size w ((w.alloc o).alloc o1))
  cases e1 : (p.cls.toList == f.cls.toList)
  · have HN := hidM (show agree p f bs = none from if_neg (fun h => by rw [h.1] at e1; simp at e1))
    have e1' : (p.cls.toList != f.cls.toList) = true := by rw [bne, e1]; rfl
    go_enter Tryz.func99, Tryz.ntmps99
    go_wp2_with fail
    refine bodyPost_ret (v := .tuple #[.slice none 0 0, .bool false]) (by simp [results, Tryz.results99, go_sem]) rfl ?_
    exact AgPost.no HN.out (B2.out _ _)
  have e1' : (p.cls.toList != f.cls.toList) = false := by rw [bne, e1]; rfl
  cases e2 : ((p.terms.length : Int) == (f.slots.length : Int))
  · have HN := hidM (show agree p f bs = none from if_neg (fun h => by rw [h.2] at e2; simp at e2))
    have e2' : ((p.terms.length : Int) != (f.slots.length : Int)) = true := by rw [bne, e2]; rfl
    go_enter Tryz.func99, Tryz.ntmps99
    go_wp2_with fail
    refine bodyPost_ret (v := .tuple #[.slice none 0 0, .bool false]) (by simp [results, Tryz.results99, go_sem]) rfl ?_
    exact AgPost.no HN.out (B2.out _ _)
  have e2' : ((p.terms.length : Int) != (f.slots.length : Int)) = false := by rw [bne, e2]; rfl
  have hlen : p.terms.length = f.slots.length := by simp at e2; omega
  have hcls : p.cls = f.cls := by rw [bytes_beq] at e1; simpa using e1
  have HAG := hidM (show agree p f bs = agGo bs p.terms f.slots from if_pos ⟨hcls, hlen⟩)
  have HLEN := hidM hlen
  clear hlen hcls
  go_enter Tryz.func99, Tryz.ntmps99
  go_upto_region 1 with fail
  refine lift2aN ?_
  intro w0 hW0 hq1 hq2
  obtain ⟨pb0, pb1, pb2⟩ := cells3M hq1
  obtain ⟨fb0, fb1, fb2⟩ := cells3M hq2
  have H0 := hidM hW0
  have hs0 := hW0.size
  have hl0 : w.heap.size + 1 < w0.heap.size := lt_of_block' hq2
  have BD0 := hidM (HB.out.below hW0)
  clear hW0 hq1 hq2
  go_upto_region 5 with (first | (at_builtin; refine wpList_append_any (by rfl) (.tmp 29) (.tmp 30) 89 (by rfl) w0.heap.size 220 _ 4 48 Tryz.underlying89 infoBdF (by rfl) (by omega) _ 0 [] (by rfl) (World.ownsRow_nil _ _ _ _) ba bs.length bc (by rfl) (bs.flatMap bdCells) (by rw [bdFlat_len]) (fun e => BdsAt.nil' (e ▸ BD0.out)) (fun ad e => BdsAt.flat (e ▸ BD0.out)) (bd_one _) (by unfold maxLen; omega) (by omega) (Nat.le_refl _) ?_; intro a1 c1 w1 ho1 hg1 hl1) | fail)
  have hB01 : Below w0.heap.size w0 w1 := ⟨hg1.out.os, hg1.out.tape, hg1.out.output, hg1.out.size, fun k hk => hg1.out.block k hk (fun e => by cases e)⟩
  have OW1 := hidM (show w1.ownsRow w0.heap.size 220 4 (.slice a1 bs.length c1) bs.length (bs.flatMap bdCells) by have := ho1.out; simpa using this)
  have pb2' := cell_below hB01 pb2
  have HB01 := hidM hB01
  clear ho1 hg1 hl1 e1 e2 e1' e2' hB01
  go_wp2_with fail
  clear pb2'
  go_loopw [35, 8] (fun iv ov wr => ∃ (k : Nat) (o : List Bd) (a : Option Addr) (c : Nat), iv = .int .i64 (k : Int) ∧ k ≤ p.terms.length ∧ ov = .slice a o.length c ∧ agree p f bs = agGo o (p.terms.drop k) (f.slots.drop k) ∧ o.length ≤ bs.length + k ∧ wr.ownsRow w0.heap.size 220 4 (.slice a o.length c) o.length (o.flatMap bdCells) ∧ Below w0.heap.size w0 wr) (fun iv _ _ => p.terms.length - (intOf iv).toNat)
  case atStart => exact ⟨0, bs, a1, c1, rfl, Nat.zero_le _, rfl, HAG.out, Nat.le_refl _, OW1.out, HB01.out⟩
  case round =>
    obtain ⟨k, o, a, c, rfl, hkl, rfl, hG, hol, hrow, hb⟩ := hrel
    have HG := hidM hG
    have ROW := hidM hrow
    have HBB := hidM hb
    have HBW := hidM (H0.out.trans (hb.mono H0.out.size))
    have hsr := hb.size
    clear hG hrow hb HB01 OW1
    by_cases hk : k < p.terms.length
    · obtain ⟨t, ht⟩ : ∃ t, p.terms[k]? = some t := ⟨p.terms[k], by simp [hk]⟩
      obtain ⟨v, hv⟩ : ∃ v, f.slots[k]? = some v := ⟨f.slots[k]'(by have := HLEN.out; omega), by simp⟩
      have HD := hidM (drop_cons ht)
      have HD' := hidM (drop_cons hv)
      obtain ⟨tb, tk, rfl, _, t0, t1, t2, t3, t4, t5⟩ := (HT.out.below HBW.out).get ht
      obtain ⟨vb, vo, rfl, v0, v1, v2⟩ := (HF.out.below HBW.out) k v hv
      have pbr := cell_below HBB.out pb2
      have fbr := cell_below HBB.out fb2
      have hl1 : w.heap.size + 1 < wr.heap.size := by omega
      have hl3 := cell_ltM v0
      have z0 : (0 : Int) ≤ (k : Int) := by omega
      have z1 : (k : Int) < (p.terms.length : Int) := by omega
      have z2 : (k : Int) < (f.slots.length : Int) := by have := HLEN.out; omega
      have NONE := hidM (fun (h : agT o t v = none) => (show agree p f bs = none by rw [HG.out, HD.out, HD'.out]; exact agGo_none h))
      have SOME := hidM (fun o' (h : agT o t v = some o') => (show agree p f bs = agGo o' (p.terms.drop (k + 1)) (f.slots.drop (k + 1)) by rw [HG.out, HD.out, HD'.out]; exact agGo_some h))
      clear ht hv HD HD' HG
      go_upto_region 9 with fail
      refine lift2aN ?_
      intro w2 hW2 hq1 hq2
      obtain ⟨k0, k1, k2, k3, k4, k5⟩ := cells6M hq1
      obtain ⟨u0, u1, u2⟩ := cells3M hq2
      have R2 := hidM (own_bel ROW.out hW2)
      have D2 := hidM (HBB.out.trans (hW2.mono HBB.out.size))
      have hs2 := hW2.size
      have hl2 : wr.heap.size + 1 < w2.heap.size := lt_of_block' hq2
      clear hW2 hq1 hq2 t0 t1 t2 t3 t4 t5 v0 v1 v2 pbr fbr ROW HBB HBW
      by_cases hk1 : t.kind = 1
      · have b1 : (t.kind == 1) = true := by simpa using hk1
        by_cases q0 : v.kind = t.val.kind
        rotate_left
        · have hne : ¬ v = t.val := fun e => q0 (by rw [e])
          have HNO := hidM (show agT o t v = none by unfold agT; rw [if_pos hk1, if_neg hne])
          clear hne hk1
          go_wp2_with fail
          refine bodyPost_ret (v := .tuple #[.slice none 0 0, .bool false]) (by simp [results, Tryz.results99, go_sem]) rfl ?_
          exact AgPost.no (NONE.out HNO.out) (H0.out.trans (D2.out.mono H0.out.size))
        by_cases q1 : v.num = t.val.num
        rotate_left
        · have hne : ¬ v = t.val := fun e => q1 (by rw [e])
          have HNO := hidM (show agT o t v = none by unfold agT; rw [if_pos hk1, if_neg hne])
          clear hne hk1
          go_wp2_with fail
          refine bodyPost_ret (v := .tuple #[.slice none 0 0, .bool false]) (by simp [results, Tryz.results99, go_sem]) rfl ?_
          exact AgPost.no (NONE.out HNO.out) (H0.out.trans (D2.out.mono H0.out.size))
        by_cases q2 : v.sym.toList = t.val.sym.toList
        rotate_left
        · have hne : ¬ v = t.val := fun e => q2 (by rw [e])
          have HNO := hidM (show agT o t v = none by unfold agT; rw [if_pos hk1, if_neg hne])
          clear hne hk1
          go_wp2_with fail
          refine bodyPost_ret (v := .tuple #[.slice none 0 0, .bool false]) (by simp [results, Tryz.results99, go_sem]) rfl ?_
          exact AgPost.no (NONE.out HNO.out) (H0.out.trans (D2.out.mono H0.out.size))
        have heq : v = t.val := V.ext3 q0 q1 q2
        have HSO := hidM (show agT o t v = some o by unfold agT; rw [if_pos hk1, if_pos heq])
        clear heq hk1
        go_wp2_with fail
        go_roundw
        case rel => exact ⟨k + 1, o, a, c, by go_num, by omega, rfl, SOME.out _ HSO.out, by omega, R2.out, D2.out⟩
        case measure => (simp [intOf]; omega)
      by_cases hk2 : t.kind = 2
      · have b1 : (t.kind == 1) = false := by simp; omega
        have b2 : (t.kind == 2) = true := by simpa using hk2
        have LB := hidM (l4Bind_any t.var a c o w2 (BdsAt.owns R2.out) (by omega))
        cases hlk : lookB o t.var with
        | none =>
          have HSO := hidM (show agT o t v = some (o ++ [⟨t.var, v⟩]) by unfold agT; rw [if_neg (by omega), if_pos hk2, hlk])
          rw [hlk] at LB
          unfold bdV at LB
          clear hlk hk2
          go_wp2_with fail
          refine LB.out.mono ?_
          rintro e w3 ⟨rfl, hb3⟩
          have R3 := hidM (own_bel R2.out hb3)
          have D3 := hidM (D2.out.trans (hb3.mono D2.out.size))
          have kk2 := cell_below hb3 k2
          have uu0 := cell_below hb3 u0
          have uu1 := cell_below hb3 u1
          have uu2 := cell_below hb3 u2
          have hs3 := hb3.size
          clear hb3 LB
          go_upto_region 15 with fail
          refine lift_alloc ?_
          intro w4 hW4 hq4
          obtain ⟨d0, d1, d2⟩ := cells3M hq4
          have R4 := hidM (own_bel R3.out hW4)
          have D4 := hidM (D3.out.trans (hW4.mono D3.out.size))
          have kd2 := cell_below hW4 kk2
          have ud0 := cell_below hW4 uu0
          have ud1 := cell_below hW4 uu1
          have ud2 := cell_below hW4 uu2
          have hs4 := hW4.size
          have HW := hidM (fun o' => (Below.refl _ _).alloc (Nat.le_refl _) o' : ∀ o', Below w4.heap.size w4 (w4.alloc o'))
          clear hW4 hq4 kk2 uu0 uu1 uu2 R3 D3
          go_wp2_with (first | (at_builtin; refine wpList_append_any (by rfl) (.tmp 70) (.tmp 75) 89 (by rfl) w0.heap.size 220 _ 4 48 Tryz.underlying89 infoBdF (by rfl) (by omega) _ o.length _ (by rfl) (own_bel R4.out (HW.out _)) (some ⟨_, 0, none⟩) 1 1 (by rfl) (bdCells ⟨t.var, v⟩) (by rfl) (fun e => by cases e) (news_new _ _ _ _ (by simp)) (by have := bd_one [⟨t.var, v⟩]; simpa using this) (by unfold maxLen; omega) (by omega) (by simp; omega) ?_; intro a9 c9 w9 ho9 hg9 hl9) | fail)
          have R9 := hidM (show w9.ownsRow w0.heap.size 220 4 (.slice a9 (o ++ [(⟨t.var, v⟩ : Bd)]).length c9) (o ++ [(⟨t.var, v⟩ : Bd)]).length ((o ++ [(⟨t.var, v⟩ : Bd)]).flatMap bdCells) by have := ho9.out; simpa using this)
          have D9 := hidM ((D4.out.trans ((HW.out _).mono D4.out.size)).grown hg9.out (by simp; omega) (fun g hg => (R4.out.lt g hg).1))
          clear ho9 hg9 hl9
          go_roundw
          case rel => exact ⟨k + 1, o ++ [⟨t.var, v⟩], a9, c9, by go_num, by omega, by simp, SOME.out _ HSO.out, by simp; omega, R9.out, D9.out⟩
          case measure => (simp [intOf]; omega)
        | some old =>
          rw [hlk] at LB
          unfold bdV at LB
          go_wp2_with fail
          refine LB.out.mono ?_
          rintro e w3 ⟨rfl, hb3⟩
          have R3 := hidM (own_bel R2.out hb3)
          have D3 := hidM (D2.out.trans (hb3.mono D2.out.size))
          have uu0 := cell_below hb3 u0
          have uu1 := cell_below hb3 u1
          have uu2 := cell_below hb3 u2
          have hs3 := hb3.size
          clear hb3 LB
          go_upto_region 15 with fail
          refine lift_alloc ?_
          intro w4 hW4 hq4
          obtain ⟨d0, d1, d2⟩ := cells3M hq4
          have R4 := hidM (own_bel R3.out hW4)
          have D4 := hidM (D3.out.trans (hW4.mono D3.out.size))
          have ud0 := cell_below hW4 uu0
          have ud1 := cell_below hW4 uu1
          have ud2 := cell_below hW4 uu2
          clear hW4 hq4 uu0 uu1 uu2 R3 D3
          by_cases q0 : old.kind = v.kind
          rotate_left
          · have hne : ¬ old = v := fun e => q0 (by rw [e])
            have HNO := hidM (show agT o t v = none by unfold agT; rw [if_neg (by omega), if_pos hk2, hlk]; simp only; rw [if_neg hne])
            clear hne hk2 hlk
            go_wp2_with fail
            refine bodyPost_ret (v := .tuple #[.slice none 0 0, .bool false]) (by simp [results, Tryz.results99, go_sem]) rfl ?_
            exact AgPost.no (NONE.out HNO.out) (H0.out.trans (D4.out.mono H0.out.size))
          by_cases q1 : old.num = v.num
          rotate_left
          · have hne : ¬ old = v := fun e => q1 (by rw [e])
            have HNO := hidM (show agT o t v = none by unfold agT; rw [if_neg (by omega), if_pos hk2, hlk]; simp only; rw [if_neg hne])
            clear hne hk2 hlk
            go_wp2_with fail
            refine bodyPost_ret (v := .tuple #[.slice none 0 0, .bool false]) (by simp [results, Tryz.results99, go_sem]) rfl ?_
            exact AgPost.no (NONE.out HNO.out) (H0.out.trans (D4.out.mono H0.out.size))
          by_cases q2 : old.sym.toList = v.sym.toList
          rotate_left
          · have hne : ¬ old = v := fun e => q2 (by rw [e])
            have HNO := hidM (show agT o t v = none by unfold agT; rw [if_neg (by omega), if_pos hk2, hlk]; simp only; rw [if_neg hne])
            clear hne hk2 hlk
            go_wp2_with fail
            refine bodyPost_ret (v := .tuple #[.slice none 0 0, .bool false]) (by simp [results, Tryz.results99, go_sem]) rfl ?_
            exact AgPost.no (NONE.out HNO.out) (H0.out.trans (D4.out.mono H0.out.size))
          have heq : old = v := V.ext3 q0 q1 q2
          have HSO := hidM (show agT o t v = some o by unfold agT; rw [if_neg (by omega), if_pos hk2, hlk]; simp only; rw [if_pos heq])
          clear heq hk2 hlk
          go_wp2_with fail
          go_roundw
          case rel => exact ⟨k + 1, o, a, c, by go_num, by omega, rfl, SOME.out _ HSO.out, by omega, R4.out, D4.out⟩
          case measure => (simp [intOf]; omega)
      by_cases hk3 : t.kind = 3
      · have b1 : (t.kind == 1) = false := by simp; omega
        have b2 : (t.kind == 2) = false := by simp; omega
        have b3 : (t.kind == 3) = true := by simpa using hk3
        go_upto_region 21 with fail
        refine lift_alloc ?_
        intro w3 hW3 hq3
        obtain ⟨x0, x1, x2⟩ := cells3M hq3
        have kk1 := cell_below hW3 k1
        have kk2 := cell_below hW3 k2
        have uu0 := cell_below hW3 u0
        have uu1 := cell_below hW3 u1
        have uu2 := cell_below hW3 u2
        have R3 := hidM (own_bel R2.out hW3)
        have D3 := hidM (D2.out.trans (hW3.mono D2.out.size))
        have hs3 := hW3.size
        have BX := hidM hq3
        clear hW3 hq3 k0 k1 k2 k3 k4 k5 u0 u1 u2 R2 D2
        by_cases hE : t.var = ⟨#[]⟩
        · have HWI := hidM (show (if t.var = ⟨#[]⟩ then t.val else (lookB o t.var).getD zVm) = t.val from if_pos hE)
          have hE1 : t.var.toList.isEmpty = true := by rw [hE, emM]; rfl
          have hE2 : (t.var.toList != []) = false := by rw [hE, emM]; rfl
          clear hE
          cases hm : meets t.op v t.val
          · have HNO := hidM (show agT o t v = none by unfold agT; rw [if_neg (by omega), if_neg (by omega), if_pos hk3, HWI.out, if_neg (by rw [hm]; simp)])
            have L3 := hidM (l3Holds_any v t.val t.op w3)
            rw [hm] at L3
            clear hm hk3
            go_wp2_with fail
            refine L3.out.mono ?_
            rintro e w8 ⟨rfl, hb8⟩
            have D8 := hidM (D3.out.trans (hb8.mono D3.out.size))
            clear hb8 L3
            go_wp2_with fail
            refine bodyPost_ret (v := .tuple #[.slice none 0 0, .bool false]) (by simp [results, Tryz.results99, go_sem]) rfl ?_
            exact AgPost.no (NONE.out HNO.out) (H0.out.trans (D8.out.mono H0.out.size))
          · have HSO := hidM (show agT o t v = some o by unfold agT; rw [if_neg (by omega), if_neg (by omega), if_pos hk3, HWI.out, if_pos hm])
            have L3 := hidM (l3Holds_any v t.val t.op w3)
            rw [hm] at L3
            clear hm hk3
            go_wp2_with fail
            refine L3.out.mono ?_
            rintro e w8 ⟨rfl, hb8⟩
            have R8 := hidM (own_bel R3.out hb8)
            have D8 := hidM (D3.out.trans (hb8.mono D3.out.size))
            clear hb8 L3
            go_wp2_with fail
            go_roundw
            case rel => exact ⟨k + 1, o, a, c, by go_num, by omega, rfl, SOME.out _ HSO.out, by omega, R8.out, D8.out⟩
            case measure => (simp [intOf]; omega)
        · have HWI := hidM (show (if t.var = ⟨#[]⟩ then t.val else (lookB o t.var).getD zVm) = (lookB o t.var).getD zVm from if_neg hE)
          have hE1 : t.var.toList.isEmpty = false := by cases h : t.var.toList.isEmpty; rfl; exact absurd (by have h2 : (t.var.toList == (⟨#[]⟩ : ByteArray).toList) = true := (by rw [List.isEmpty_iff.1 h, emM]; rfl); rw [bytes_beq] at h2; simpa using h2) hE
          clear hE
          have LB := hidM (l4Bind_any t.var a c o w3 (BdsAt.owns R3.out) (by omega))
          obtain ⟨wv, hwv⟩ : ∃ wv, wv = (lookB o t.var).getD zVm := ⟨_, rfl⟩
          replace HWI := hidM (HWI.out.trans hwv.symm)
          have LB2 := hidM (show ∃ fl : Bool, Calls Tryz.prog 129 #[.slice a o.length c, .string t.var] w3 fun e w' => e = .returned (.tuple #[.agg #[.int .i64 wv.kind, .int .i64 wv.num, .string wv.sym], .bool fl]) ∧ Below w3.heap.size w3 w' by cases hlk : lookB o t.var with | none => (rw [hlk] at hwv LB; subst hwv; exact ⟨false, LB.out⟩) | some x => (rw [hlk] at hwv LB; subst hwv; exact ⟨true, LB.out⟩))
          obtain ⟨fl, hLB⟩ := LB2.out
          have LB3 := hidM hLB
          clear LB LB2 hLB hwv
          go_wp2_with fail
          refine LB3.out.mono ?_
          rintro e w4 ⟨rfl, hb4⟩
          have BX4 := hidM ((hb4.block _ (lt_of_block' BX.out)).trans BX.out)
          obtain ⟨y0, y1, y2⟩ := cells3M BX4.out
          have zf := hidM (fun j => (show w4.frozen? ⟨w2.heap.size, j, none⟩ = false by simp [World.frozen?, BX4.out]))
          have zf0 := zf.out 0
          have zf1 := zf.out 1
          have zf2 := zf.out 2
          have kl1 := cell_below hb4 kk1
          have ul0 := cell_below hb4 uu0
          have ul1 := cell_below hb4 uu1
          have ul2 := cell_below hb4 uu2
          have R4 := hidM (own_bel R3.out hb4)
          have D4 := hidM (D3.out.trans (hb4.mono D3.out.size))
          have hs4 := hb4.size
          clear hb4 LB3 kk1 kk2 uu0 uu1 uu2 x0 x1 x2 R3 D3
          go_upto_region 23 with fail
          refine lift_b3 BX4.out ?_
          intro w5 hq5 ht5
          obtain ⟨x0, x1, x2⟩ := cells3M hq5
          have R5 := hidM (owns_of_block R4.out fun g hg => ht5.block g (fun e => by obtain ⟨d, hd⟩ := own_type R4.out hg; subst e; exact own_far BX4.out hd (by decide)))
          have D5 := hidM (D4.out.trans (ht5.below (by omega)))
          have km1 : w5.cell? ⟨wr.heap.size, 1, none⟩ = some (.int .i64 t.op) := (World.cell?_of_block (w := w4) (ht5.block (wr.heap.size) (by omega))).trans kl1
          have um0 : w5.cell? ⟨wr.heap.size + 1, 0, none⟩ = some (.int .i64 v.kind) := (World.cell?_of_block (w := w4) (ht5.block (wr.heap.size + 1) (by omega))).trans ul0
          have um1 : w5.cell? ⟨wr.heap.size + 1, 1, none⟩ = some (.int .i64 v.num) := (World.cell?_of_block (w := w4) (ht5.block (wr.heap.size + 1) (by omega))).trans ul1
          have um2 : w5.cell? ⟨wr.heap.size + 1, 2, none⟩ = some (.string v.sym) := (World.cell?_of_block (w := w4) (ht5.block (wr.heap.size + 1) (by omega))).trans ul2
          clear hq5 ht5 kl1 ul0 ul1 ul2 y0 y1 y2 zf zf0 zf1 zf2 R4 D4 BX4 BX
          cases hm : meets t.op v wv
          · have HNO := hidM (show agT o t v = none by unfold agT; rw [if_neg (by omega), if_neg (by omega), if_pos hk3, HWI.out, if_neg (by rw [hm]; simp)])
            have L3 := hidM (l3Holds_any v wv t.op w5)
            rw [hm] at L3
            clear hm hk3
            go_wp2_with fail
            refine L3.out.mono ?_
            rintro e w8 ⟨rfl, hb8⟩
            have D8 := hidM (D5.out.trans (hb8.mono D5.out.size))
            clear hb8 L3
            go_wp2_with fail
            refine bodyPost_ret (v := .tuple #[.slice none 0 0, .bool false]) (by simp [results, Tryz.results99, go_sem]) rfl ?_
            exact AgPost.no (NONE.out HNO.out) (H0.out.trans (D8.out.mono H0.out.size))
          · have HSO := hidM (show agT o t v = some o by unfold agT; rw [if_neg (by omega), if_neg (by omega), if_pos hk3, HWI.out, if_pos hm])
            have L3 := hidM (l3Holds_any v wv t.op w5)
            rw [hm] at L3
            clear hm hk3
            go_wp2_with fail
            refine L3.out.mono ?_
            rintro e w8 ⟨rfl, hb8⟩
            have R8 := hidM (own_bel R5.out hb8)
            have D8 := hidM (D5.out.trans (hb8.mono D5.out.size))
            clear hb8 L3
            go_wp2_with fail
            go_roundw
            case rel => exact ⟨k + 1, o, a, c, by go_num, by omega, rfl, SOME.out _ HSO.out, by omega, R8.out, D8.out⟩
            case measure => (simp [intOf]; omega)
      have b1 : (t.kind == 1) = false := by simpa using hk1
      have b2 : (t.kind == 2) = false := by simpa using hk2
      have b3 : (t.kind == 3) = false := by simpa using hk3
      have HSO := hidM (show agT o t v = some o by unfold agT; rw [if_neg hk1, if_neg hk2, if_neg hk3])
      go_wp2_with fail
      go_roundw
      case rel => exact ⟨k + 1, o, a, c, by go_num, by omega, rfl, SOME.out _ HSO.out, by omega, R2.out, D2.out⟩
      case measure => (simp [intOf]; omega)
    · have hke : k = p.terms.length := by omega
      subst hke
      have hy : ¬ (p.terms.length : Int) < (p.terms.length : Int) := by omega
      have HR := hidM (show agree p f bs = some o by rw [HG.out, List.drop_eq_nil_of_le (Nat.le_refl _)]; rfl)
      go_wp2_with fail
      refine bodyPost_ret (v := .tuple #[.slice a o.length c, .bool true]) (by simp [results, Tryz.results99, go_sem]) rfl ?_
      exact AgPost.yes HR.out (owns_base ROW.out H0.out.size) HBW.out
end Go.Proofs.YtmmdlgjmplddiaaGreat

namespace Go.Proofs.YtmmdlgjmplddiaaGreat
open Go.RowKit

theorem AgPost.elimNo {p : Pt} {f : F} {bs : List Bd} {w w' : World} {e : Ending} (h : AgPost p f bs w e w') (hn : agree p f bs = none) : e = .returned (.tuple #[.slice none 0 0, .bool false]) ∧ Below w.heap.size w w' := by
  unfold AgPost at h
  rw [hn] at h
  exact h
theorem AgPost.elimYes {p : Pt} {f : F} {bs o : List Bd} {w w' : World} {e : Ending} (h : AgPost p f bs w e w') (hn : agree p f bs = some o) : ∃ a c, e = .returned (.tuple #[.slice a o.length c, .bool true]) ∧ w'.ownsRow w.heap.size 220 4 (.slice a o.length c) o.length (o.flatMap bdCells) ∧ Below w.heap.size w w' := by
  unfold AgPost at h
  rw [hn] at h
  obtain ⟨⟨a, c, he, ho⟩, hb⟩ := h
  exact ⟨a, c, he, ho, hb⟩
/-- A part that was made: its data, the slices of its tags and binds. -/
abbrev PmX := Pm × Value × Value
def pmCells (x : PmX) : List Value := [x.2.1, x.2.2]
structure PmP (w : World) (base : Nat) (x : PmX) : Prop where
  ts : ∃ a c, x.2.1 = .slice a x.1.tags.length c
  bs : ∃ a c, x.2.2 = .slice a x.1.binds.length c
  ot : w.ownsRow base 3 1 x.2.1 x.1.tags.length (icells x.1.tags)
  ob : w.ownsRow base 220 4 x.2.2 x.1.binds.length (x.1.binds.flatMap bdCells)
/-- Parts that were made: an owned row. -/
structure MO (w : World) (b1 base : Nat) (a : Option Addr) (c : Nat) (L : List PmX) : Prop where
  row : w.ownsRow b1 91 2 (.slice a L.length c) L.length (L.flatMap pmCells)
  all : ∀ x ∈ L, PmP w base x
theorem MO.nil (w : World) (b1 base : Nat) : MO w b1 base none 0 [] := ⟨World.ownsRow_nil _ _ _ _, fun x hx => by simp at hx⟩
theorem PmP.bel {w w' : World} {base : Nat} {x : PmX} (h : PmP w base x) (hb : Below w.heap.size w w') : PmP w' base x := ⟨h.ts, h.bs, own_bel h.ot hb, own_bel h.ob hb⟩
theorem MO.bel {w w' : World} {b1 base : Nat} {a : Option Addr} {c : Nat} {L : List PmX} (h : MO w b1 base a c L) (hb : Below w.heap.size w w') : MO w' b1 base a c L := ⟨own_bel h.row hb, fun x hx => (h.all x hx).bel hb⟩
theorem PmP.lower {w : World} {base base' : Nat} {x : PmX} (h : PmP w base x) (hb : base' ≤ base) : PmP w base' x := ⟨h.ts, h.bs, owns_base h.ot hb, owns_base h.ob hb⟩
theorem PmP.grown {w w' : World} {base : Nat} {t : TypeId} {x : PmX} {row : Option Nat} (h : PmP w base x) (hg : w.grownBy w' row) (ht : ∀ k, row = some k → ∃ c, w.heap[k]? = some (.cells c t (0, 0))) (h1 : t ≠ 3) (h2 : t ≠ 220) : PmP w' base x := ⟨h.ts, h.bs, own_grown h.ot hg ht h1, own_grown h.ob hg ht h2⟩
theorem MO.snoc {w w' : World} {b1 base : Nat} {a a' : Option Addr} {c c' : Nat} {L : List PmX} {x : PmX} (h : MO w b1 base a c L) (hx : PmP w base x) (ho : w'.ownsRow b1 91 2 (.slice a' (L.length + 1) c') (L.length + 1) (L.flatMap pmCells ++ pmCells x)) (hg : w.grownBy w' (Value.slice a L.length c).ownBlock) : MO w' b1 base a' c' (L ++ [x]) := by
  refine ⟨by simpa using ho, fun y hy => ?_⟩
  have hy' : PmP w base y := by
    rcases List.mem_append.1 hy with hy | hy
    · exact h.all y hy
    · simp at hy
      subst hy
      exact hx
  exact hy'.grown hg (fun k hk => own_type h.row hk) (by decide) (by decide)
theorem MO.get {w : World} {b1 base : Nat} {a : Option Addr} {c : Nat} {L : List PmX} (h : MO w b1 base a c L) {i : Nat} {x : PmX} (hi : L[i]? = some x) :
    ∃ k, a = some ⟨k, 0, none⟩ ∧ k < w.heap.size ∧ w.cell? ⟨k, i * 2, none⟩ = some x.2.1 ∧ w.cell? ⟨k, i * 2 + 1, none⟩ = some x.2.2 := by
  have key := fun j u (hj : (pmCells x)[j]? = some u) => owns_cell h.row (flat_gen (cells := pmCells) (m := 2) (fun _ => rfl) L i x j u hi hj)
  obtain ⟨k, rfl, _, h0, _⟩ := key 0 _ rfl
  obtain ⟨k1, e1, _, h1, _⟩ := key 1 _ rfl
  cases e1
  exact ⟨k, rfl, World.block_lt_of_cell? w ⟨k, _, none⟩ h0, h0, h1⟩
theorem pmCells_one {w : World} {base : Nat} {x : PmX} (h : PmP w base x) : ∀ u ∈ pmCells x, u.oneCell' = true := by
  obtain ⟨⟨a, c, h1⟩, ⟨a', c', h2⟩, _, _⟩ := h
  intro u hu
  simp [pmCells] at hu
  rcases hu with rfl | rfl
  · rw [h1]; rfl
  · rw [h2]; rfl
theorem infoPmF : (Tryz.prog.info? 91).map (fun i => (i.zero, i.size, i.bytes)) = some (some (.agg #[.slice none 0 0, .slice none 0 0]), 2, 48) := by kernel_rfl
theorem infoIM : (Tryz.prog.info? 3).map (fun i => (i.zero, i.size, i.bytes)) = some (some (.int .i64 0), 1, 8) := by kernel_rfl
theorem ic_nil {w : World} {base : Nat} {xs : List Int} {a : Option Addr} {c : Nat} (h : w.ownsRow base 3 1 (.slice a xs.length c) xs.length (icells xs)) (e : a = none) : xs.length = 0 := by
  subst e
  rcases h.2 with ⟨_, h0⟩ | ⟨g, cap, cur, hv, _⟩
  · exact h0
  · cases hv
theorem ic_at {w : World} {base : Nat} {xs : List Int} {a : Option Addr} {c : Nat} (h : w.ownsRow base 3 1 (.slice a xs.length c) xs.length (icells xs)) (ad : Addr) (e : a = some ad) (j : Nat) (u : Value) (hu : (icells xs)[j]? = some u) : w.cell? (ad.add j) = some u := by
  obtain ⟨g, he, _, hc, _⟩ := owns_cell h hu
  rw [e] at he
  cases he
  rw [Addr.add_mid, Nat.zero_add]
  exact hc
theorem ic_one (xs : List Int) : ∀ u ∈ icells xs, u.oneCell' = true := by
  intro u hu
  simp [icells] at hu
  obtain ⟨x, _, rfl⟩ := hu
  rfl
theorem ic_len (xs : List Int) : (icells xs).length = xs.length * 1 := by simp [icells]
theorem ic_snoc (xs : List Int) (x : Int) : icells (xs ++ [x]) = icells xs ++ [.int .i64 x] := by simp [icells]
theorem cells2M {w : World} {b : Nat} {ty : TypeId} {x0 x1 : Value} (h : w.heap[b]? = some (.cells #[x0, x1] ty (0, 0))) : w.cell? ⟨b, 0, none⟩ = some x0 ∧ w.cell? ⟨b, 1, none⟩ = some x1 := by
  refine ⟨?_, ?_⟩ <;> simp [World.cell?, h]
theorem FactsAt.getM {w : World} {a : Option Addr} {fs : List F} (h : FactsAt w a fs) {i : Nat} {f : F} (hi : fs[i]? = some f) : ∃ b o, a = some ⟨b, o, none⟩ ∧ b < w.heap.size ∧ w.cell? ⟨b, o + i * 3, none⟩ = some (.int .i64 f.tag) ∧ w.cell? ⟨b, o + i * 3 + 1, none⟩ = some (.string f.cls) ∧ ∃ a' c, w.cell? ⟨b, o + i * 3 + 2, none⟩ = some (.slice a' f.slots.length c) ∧ ValsAt w a' f.slots := by
  obtain ⟨b, o, e, h1, h2, a', c, h3, h4⟩ := h i f hi
  exact ⟨b, o, e, cell_ltM h1, h1, h2, a', c, h3, h4⟩
/-- Whether a fact of some went on. -/
def anyH (p : Pt) (x : Pm) (l : List F) : Bool := decide (0 < (hits p x l).length)
def soFar (p : Pt) (x : Pm) (l : List F) : List Pm := if p.neg = true then [] else hits p x l
theorem anyH_no {p : Pt} {x : Pm} {l : List F} {f : F} (h : agree p f x.binds = none) : anyH p x (l ++ [f]) = anyH p x l := by unfold anyH; rw [hits_snoc, h]; simp
theorem anyH_yes {p : Pt} {x : Pm} {l : List F} {f : F} {o : List Bd} (h : agree p f x.binds = some o) : anyH p x (l ++ [f]) = true := by unfold anyH; rw [hits_snoc, h]; simp
theorem soFar_no {p : Pt} {x : Pm} {l : List F} {f : F} (h : agree p f x.binds = none) : soFar p x (l ++ [f]) = soFar p x l := by unfold soFar; rw [hits_snoc, h]; simp
theorem soFar_neg {p : Pt} {x : Pm} {l : List F} (h : p.neg = true) : soFar p x l = [] := if_pos h
theorem soFar_yes {p : Pt} {x : Pm} {l : List F} {f : F} {o : List Bd} (hn : p.neg = false) (h : agree p f x.binds = some o) : soFar p x (l ++ [f]) = soFar p x l ++ [⟨x.tags ++ [f.tag], o⟩] := by
  unfold soFar
  rw [if_neg (by rw [hn]; simp), if_neg (by rw [hn]; simp), hits_snoc, h]
theorem soFar_len (p : Pt) (x : Pm) (l : List F) : (soFar p x l).length ≤ l.length := by
  unfold soFar
  split
  · simp
  · exact hits_len p x l
theorem nextOf_pos {p : Pt} {fs : List F} {x : Pm} (h : p.neg = false) : nextOf p fs x = soFar p x fs := by
  unfold nextOf soFar
  rw [if_neg (by rw [h]; simp), if_neg (by rw [h]; simp)]
theorem nextOf_neg {p : Pt} {fs : List F} {x : Pm} (h : p.neg = true) (b : Bool) (hb : b = anyH p x fs) : nextOf p fs x = if b = true then [] else [x] := by
  unfold nextOf
  rw [if_pos h]
  unfold anyH at hb
  by_cases h0 : (hits p x fs).length = 0
  · rw [if_pos h0, hb, if_neg (by simp; exact List.eq_nil_of_length_eq_zero h0)]
  · rw [if_neg h0, hb, if_pos (decide_eq_true (by omega))]
theorem nextM_snoc (p : Pt) (fs : List F) (X : List Pm) (k : Nat) (x : Pm) (h : X[k]? = some x) : nextM p fs (X.take (k + 1)) = nextM p fs (X.take k) ++ nextOf p fs x := by
  unfold nextM
  rw [List.take_add_one, h, List.flatMap_append]
  simp
theorem nextM_len (p : Pt) (fs : List F) : ∀ X : List Pm, (nextM p fs X).length ≤ X.length * (fs.length + 1)
  | [] => by simp [nextM]
  | x :: r => by
    have h1 := nextM_len p fs r
    have h2 := nextOf_len p fs x
    have h3 : nextM p fs (x :: r) = nextOf p fs x ++ nextM p fs r := by unfold nextM; rw [List.flatMap_cons]
    rw [h3, List.length_append, List.length_cons, Nat.add_mul]
    omega
end Go.Proofs.YtmmdlgjmplddiaaGreat

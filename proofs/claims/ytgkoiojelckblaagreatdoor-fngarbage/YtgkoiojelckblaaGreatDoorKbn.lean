/-
  OUR OWN TEXT. Pt9, Pt10, Pt11, Pt12, Sb1, Rt2, Rt3, Rt4, one behind the other.
-/
import Derived.Test.YtgkoiojelckblaaGreatDoorKbl
import Derived.Deep.CutBlock
import Derived.Deep.DeepCutAuto
import Derived.Test.YtgkoiojelckblaaGreatDoorKbk
import Derived.Test.YtgkoiojelckblaaGreatDoorRt1m
import Derived.Test.YtgkoiojelckblaaGreatDoorKau
namespace Go.Proofs.YtgkoiojelckblaaGreatDoor
open Go.RowKit Go.Maps
attribute [local go_sem ↓] Go.wp_at_zero Go.wp_at_succ

def ruL (n : ByteArray) (s : Int) (pv ev av : Value) : List Value := [.string n, .int .i64 s, pv, ev, av]
theorem ruL_one (n : ByteArray) (s : Int) (a1 a2 a3 : Option Addr) (n1 n2 n3 c1 c2 c3 : Nat) : ∀ v ∈ ruL n s (.slice a1 n1 c1) (.slice a2 n2 c2) (.slice a3 n3 c3), v.oneCell' = true := by
  intro v hv
  simp [ruL] at hv
  rcases hv with rfl | rfl | rfl | rfl | rfl <;> rfl
theorem infoRuP : (Tryz.prog.info? 41).map (·.size) = some 5 := by kernel_rfl
theorem infoPF1 : (Tryz.prog.info? 45).map (fun i => (i.zero, i.size, i.bytes)) = some (some (.agg #[.bool false, .string ⟨#[]⟩, .slice none 0 0]), 3, 48) := by kernel_rfl
theorem infoAF1 : (Tryz.prog.info? 53).map (fun i => (i.zero, i.size, i.bytes)) = some (some (.agg #[.int .i64 0, .int .i64 0, .string ⟨#[]⟩, .slice none 0 0]), 4, 56) := by kernel_rfl
/-- A rule with the rows that it holds. -/
structure RX where
  ru : Ru
  pa : Option Addr
  pc : Nat
  MP : List (Pt × Value)
  ea : Option Addr
  ec : Nat
  aa : Option Addr
  ac : Nat
  MA : List (Ac × Value)
def RX.pv (x : RX) : Value := .slice x.pa x.MP.length x.pc
def RX.ev (x : RX) : Value := .slice x.ea x.ru.exprs.length x.ec
def RX.av (x : RX) : Value := .slice x.aa x.MA.length x.ac
def RX.cells (x : RX) : List Value := ruL x.ru.name x.ru.sal x.pv x.ev x.av
structure ROwn (w : World) (B : Nat) (x : RX) : Prop where
  pts : NRow ptK w B x.pa x.pc x.MP
  exs : w.ownsRow B 138 8 x.ev x.ru.exprs.length (x.ru.exprs.flatMap exC)
  acs : NRow acK w B x.aa x.ac x.MA
  mp : x.MP.map Prod.fst = x.ru.pats
  ma : x.MA.map Prod.fst = x.ru.acts
/-- What a rule's reading leaves. -/
def RuPost (w : World) (pb : Nat) (src : Bs) (a : Option Addr) (c : Nat) (am cm rv lv : Value) (r : Px Ru) (e : Ending) (w' : World) : Prop := MkO (some pb) w w' ∧ match r with
  | .error f => e = fltE f
  | .ok (ru, l) => ∃ x : RX, x.ru = ru ∧ e = .returned (.agg x.cells.toArray) ∧ ROwn w' w.heap.size x ∧ ∃ ev bv, PSt w' pb src a c l (RL am cm rv lv ev bv)
theorem RuPost.err {w w' : World} {pb : Nat} {src : Bs} {a : Option Addr} {c : Nat} {am cm rv lv : Value} {r : Px Ru} {f : Flt} (hr : r = .error f) (hm : MkO (some pb) w w') : RuPost w pb src a c am cm rv lv r (fltE f) w' := by
  subst hr
  exact ⟨hm, rfl⟩
def lenP (bx j : Nat) (w : World) : Nat := match w.cell? ⟨bx, j, none⟩ with
  | some v => sliceLen v
  | none => 0
def nilV : Value := .slice none 0 0
/-- In a rule, at its patterns: bx the rule's box, rb the answer's. -/
structure PatS (w wx : World) (pb bx rb : Nat) (src : Bs) (a : Option Addr) (c : Nat) (am cm rv lv : Value) (nm : ByteArray) (sl : Int) (l : List Wd) (pa : Option Addr) (pc : Nat) (MP : List (Pt × Value)) : Prop where
  mo : MkO (some pb) w wx
  ps : PSt wx pb src a c l (RL am cm rv lv (.slice none 0 0) (.int .i64 0))
  pts : NRow ptK wx w.heap.size pa pc MP
  bq : wx.heap[bx]? = some (.cells (ruL nm sl (.slice pa MP.length pc) nilV nilV).toArray 41 (0, 0))
  rq : wx.heap[rb]? = some (.cells (ruL ⟨#[]⟩ 0 nilV nilV nilV).toArray 41 (0, 0))
theorem PatS.below {w wx wt : World} {pb bx rb : Nat} {src : Bs} {a : Option Addr} {c : Nat} {am cm rv lv : Value} {nm : ByteArray} {sl : Int} {l : List Wd} {pa : Option Addr} {pc : Nat} {MP : List (Pt × Value)} (h : PatS w wx pb bx rb src a c am cm rv lv nm sl l pa pc MP) (hb : Below wx.heap.size wx wt) : PatS w wt pb bx rb src a c am cm rv lv nm sl l pa pc MP :=
  ⟨h.mo.trans (MkO.of_below hb), h.ps.below hb, h.pts.below hb, (hb.block bx (lt_of_block' h.bq)).trans h.bq, (hb.block rb (lt_of_block' h.rq)).trans h.rq⟩
theorem PatS.mko {w wx wt : World} {pb bx rb : Nat} {src : Bs} {a : Option Addr} {c : Nat} {am cm rv lv : Value} {nm : ByteArray} {sl : Int} {l l' : List Wd} {pa : Option Addr} {pc : Nat} {MP : List (Pt × Value)} (h : PatS w wx pb bx rb src a c am cm rv lv nm sl l pa pc MP) (hm : MkO (some pb) wx wt) (hp : PSt wt pb src a c l' (RL am cm rv lv (.slice none 0 0) (.int .i64 0))) (h1 : pb < w.heap.size) (h2 : pb ≠ bx) (h3 : pb ≠ rb) : PatS w wt pb bx rb src a c am cm rv lv nm sl l' pa pc MP :=
  ⟨h.mo.trans hm, hp, h.pts.mko hm h1, (hm.block bx (lt_of_block' h.bq) (fun e => h2 (by injection e))).trans h.bq, (hm.block rb (lt_of_block' h.rq) (fun e => h3 (by injection e))).trans h.rq⟩
theorem pListE_inv : ∀ {n : Nat} {s s' : ES} {l l' : List Wd} {vs : List Int}, s.1.length ≤ s.2 → s.2 ≤ 60 → pListE (pExpr 20) n s l = .ok ((vs, s'), l') → s'.1.length ≤ s'.2 ∧ s'.2 ≤ 60 := by
  intro n
  induction n with
  | zero =>
    intro s s' l l' vs h1 h2 h
    unfold pListE at h
    cases hr : nextW l with
    | error f => rw [hr] at h; cases h
    | ok q =>
      rw [hr] at h
      simp only at h
      split at h
      · injection h with h
        injection h with h _
        injection h with _ h
        subst h
        exact ⟨h1, h2⟩
      · split at h <;> cases h
  | succ n ih =>
    intro s s' l l' vs h1 h2 h
    unfold pListE at h
    cases hr : nextW l with
    | error f => rw [hr] at h; cases h
    | ok q =>
      rw [hr] at h
      simp only at h
      split at h
      · injection h with h
        injection h with h _
        injection h with _ h
        subst h
        exact ⟨h1, h2⟩
      · cases hv : pExpr 20 s l with
        | error f => rw [hv] at h; cases h
        | ok q =>
          obtain ⟨⟨v, s1⟩, l1⟩ := q
          rw [hv] at h
          simp only at h
          obtain ⟨j1, j2⟩ := pExpr_inv 20 s l l1 0 v s1 (by omega) h2 hv
          cases hp : pListE (pExpr 20) n s1 l1 with
          | error f => rw [hp] at h; cases h
          | ok p =>
            obtain ⟨⟨ws, s2⟩, l2⟩ := p
            rw [hp] at h
            simp only at h
            injection h with h
            injection h with h _
            injection h with _ h
            subst h
            exact ih (by omega) j2 hp
theorem andP_invX {α β : Type} {r : Px α} {k : α → List Wd → Px β} {y : β} {l : List Wd} (h : andP r k = .ok (y, l)) : ∃ x l1, r = .ok (x, l1) ∧ k x l1 = .ok (y, l) := by
  cases r with
  | error f => cases h
  | ok q => exact ⟨q.1, q.2, rfl, h⟩
theorem pAct_inv {s s' : ES} {l l' : List Wd} {v : Ac} (h1 : s.1.length ≤ s.2) (h2 : s.2 ≤ 60) (h : pAct s l = .ok ((v, s'), l')) : s'.1.length ≤ s'.2 ∧ s'.2 ≤ 60 := by
  obtain ⟨x, l1, _, h⟩ := andP_invX h
  split at h
  · obtain ⟨y, l2, _, h⟩ := andP_invX h
    injection h with h
    injection h with h _
    injection h with _ h
    subst h
    exact ⟨h1, h2⟩
  · split at h
    · obtain ⟨y, l2, _, h⟩ := andP_invX h
      obtain ⟨⟨vs, s1⟩, l3, hp, h⟩ := andP_invX h
      injection h with h
      injection h with h _
      injection h with _ h
      subst h
      exact pListE_inv h1 h2 hp
    · split at h
      · obtain ⟨y, l2, _, h⟩ := andP_invX h
        obtain ⟨z, l3, _, h⟩ := andP_invX h
        injection h with h
        injection h with h _
        injection h with _ h
        subst h
        exact ⟨h1, h2⟩
      · split at h
        · obtain ⟨y, l2, _, h⟩ := andP_invX h
          obtain ⟨⟨vs, s1⟩, l3, hp, h⟩ := andP_invX h
          injection h with h
          injection h with h _
          injection h with _ h
          subst h
          exact pListE_inv h1 h2 hp
        · cases h
theorem MkO.mkx {pb : Nat} {ob : Option Nat} {u v w : World} (h : MkO (some pb) u v) (k : MkX pb ob v w) (ho : ∀ g, ob = some g → u.heap.size ≤ g) : MkO (some pb) u w :=
  ⟨h.rest.trans k.rest, fun g hg hp => (k.block g (Nat.lt_of_lt_of_le hg h.rest.size) (fun e => hp (by rw [e])) (fun e => by have := ho g e; omega)).trans (h.block g hg hp)⟩
/-- In a rule, at its actions. -/
structure ActS (w wx : World) (pb bx rb : Nat) (src : Bs) (a : Option Addr) (c : Nat) (am cm rv lv : Value) (nm : ByteArray) (sl : Int) (pa : Option Addr) (pc : Nat) (MP : List (Pt × Value)) (l : List Wd) (s : ES) (ea : Option Addr) (ec : Nat) (aa : Option Addr) (ac : Nat) (MA : List (Ac × Value)) : Prop where
  mo : MkO (some pb) w wx
  st : ExS wx w.heap.size pb src a c l am cm rv lv s ea ec
  pts : NRow ptK wx w.heap.size pa pc MP
  acs : NRow acK wx w.heap.size aa ac MA
  bq : wx.heap[bx]? = some (.cells (ruL nm sl (.slice pa MP.length pc) nilV (.slice aa MA.length ac)).toArray 41 (0, 0))
  rq : wx.heap[rb]? = some (.cells (ruL ⟨#[]⟩ 0 nilV nilV nilV).toArray 41 (0, 0))
  hk : s.1.length ≤ s.2
  h60 : s.2 ≤ 60
theorem ActS.below {w wx wt : World} {pb bx rb : Nat} {src : Bs} {a : Option Addr} {c : Nat} {am cm rv lv : Value} {nm : ByteArray} {sl : Int} {pa : Option Addr} {pc : Nat} {MP : List (Pt × Value)} {l : List Wd} {s : ES} {ea : Option Addr} {ec : Nat} {aa : Option Addr} {ac : Nat} {MA : List (Ac × Value)} (h : ActS w wx pb bx rb src a c am cm rv lv nm sl pa pc MP l s ea ec aa ac MA) (hb : Below wx.heap.size wx wt) : ActS w wt pb bx rb src a c am cm rv lv nm sl pa pc MP l s ea ec aa ac MA :=
  ⟨h.mo.trans (MkO.of_below hb), h.st.below hb, h.pts.below hb, h.acs.below hb, (hb.block bx (lt_of_block' h.bq)).trans h.bq, (hb.block rb (lt_of_block' h.rq)).trans h.rq, h.hk, h.h60⟩
theorem ActS.mko {w wx wt : World} {pb bx rb : Nat} {src : Bs} {a : Option Addr} {c : Nat} {am cm rv lv : Value} {nm : ByteArray} {sl : Int} {pa : Option Addr} {pc : Nat} {MP : List (Pt × Value)} {l l' : List Wd} {s : ES} {ea : Option Addr} {ec : Nat} {aa : Option Addr} {ac : Nat} {MA : List (Ac × Value)} (h : ActS w wx pb bx rb src a c am cm rv lv nm sl pa pc MP l s ea ec aa ac MA) (hm : MkO (some pb) wx wt) (hp : PSt wt pb src a c l' (RE am cm rv lv s ea ec)) (h2 : pb ≠ bx) (h3 : pb ≠ rb) : ActS w wt pb bx rb src a c am cm rv lv nm sl pa pc MP l' s ea ec aa ac MA :=
  ⟨h.mo.trans hm, h.st.mko hm hp, h.pts.mko hm h.st.lt, h.acs.mko hm h.st.lt, (hm.block bx (lt_of_block' h.bq) (fun e => h2 (by injection e))).trans h.bq, (hm.block rb (lt_of_block' h.rq) (fun e => h3 (by injection e))).trans h.rq, h.hk, h.h60⟩
theorem box_ne {w : World} {g b : Nat} {B : Nat} {s : ES} {ea : Option Addr} {ec : Nat} {cs : Array Value} (ho : w.ownsRow B 138 8 (.slice ea s.1.length ec) s.1.length (s.1.flatMap exC)) (hb : w.heap[b]? = some (.cells cs 41 (0, 0))) (hg : obE s ea ec = some g) : g ≠ b := fun e => by
  obtain ⟨c1, e1⟩ := own_type ho hg
  subst e
  exact ty_ne e1 hb (by decide)
/-- Behind one more action's reading (not yet put in). -/
theorem ActS.mkx {w wx wt : World} {pb bx rb : Nat} {src : Bs} {a : Option Addr} {c : Nat} {am cm rv lv : Value} {nm : ByteArray} {sl : Int} {pa : Option Addr} {pc : Nat} {MP : List (Pt × Value)} {l l' : List Wd} {s s' : ES} {ea ea' : Option Addr} {ec ec' : Nat} {aa : Option Addr} {ac : Nat} {MA : List (Ac × Value)} (h : ActS w wx pb bx rb src a c am cm rv lv nm sl pa pc MP l s ea ec aa ac MA) (hm : MkX pb (obE s ea ec) wx wt) (hs : ExS wt w.heap.size pb src a c l' am cm rv lv s' ea' ec') (h2 : pb ≠ bx) (h3 : pb ≠ rb) (hk : s'.1.length ≤ s'.2) (h60 : s'.2 ≤ 60) : ActS w wt pb bx rb src a c am cm rv lv nm sl pa pc MP l' s' ea' ec' aa ac MA :=
  ⟨h.mo.mkx hm (fun g hg => (h.st.ow.lt g hg).1), hs, h.pts.mkx hm h.st.lt h.st.row (by decide) (by decide), h.acs.mkx hm h.st.lt h.st.row (by decide) (by decide), (hm.block bx (lt_of_block' h.bq) h2 (fun e => box_ne h.st.ow h.bq e rfl)).trans h.bq, (hm.block rb (lt_of_block' h.rq) h3 (fun e => box_ne h.st.ow h.rq e rfl)).trans h.rq, hk, h60⟩
set_option maxRecDepth 100000 in
set_option maxHeartbeats 12800000 in
theorem prule_any (w : World) (pb mb : Nat) (src : Bs) (a : Option Addr) (c : Nat) (l : List Wd) (cm rv lv ev0 bv0 : Value) (h : PSt w pb src a c l (RL (.map (some mb)) cm rv lv ev0 bv0)) (hM : FnMap w pb mb actF) (hne : pb < mb) : Calls Tryz.prog 40 #[.pointer (some ⟨pb, 0, none⟩)] w (RuPost w pb src a c (.map (some mb)) cm rv lv (pRule l)) := by
  have hwf2 := wfield2
  have hwf3 := wfield3
  have HP := hidX h
  have HM := hidX hM
  have hpb := h.lt
  have hml := hM.lt
  clear h hM
  go_enter Tryz.func40, Tryz.ntmps40
  go_upto_region 1 with fail
  refine lift_alloc ?_
  intro w1 hW1 hq1
  have P1 := hidX (HP.out.below hW1)
  have M1 := hidX (MkO.of_below hW1 : MkO (some pb) w w1)
  have HF := hidX (take_any w1 pb src a c l _ 97 P1.out)
  have hrb : w.heap.size < w1.heap.size := lt_of_block' hq1
  have HQ1 := hidX hq1
  clear hW1 hq1
  cases hr : takeW 97 l with
  | error f =>
    have HT : Hid (pRule l = .error f) := show _ = _ from by unfold pRule; rw [hr]; rfl
    rw [hr] at HF
    go_wp2_with (first | (go_at_call 62; refine HF.out.mono ?_; rintro e w2 ⟨hm2, rfl⟩; unfold fltE) | fail)
    exact ⟨rfl, RuPost.err HT.out (M1.out.trans hm2)⟩
  | ok p =>
    obtain ⟨x, l1⟩ := p
    rw [hr] at HF
    go_upto_region 2 with (first | (go_at_call 62; refine HF.out.mono ?_; rintro e w2 ⟨hm2, hw2, hp2⟩; replace hw2 : e = .returned (pwA x) := hw2; subst hw2; unfold pwA) | fail)
    refine lift_alloc ?_
    intro w3 hW3 hq3
    obtain ⟨L, X, HLX, hLl, hq3, y0⟩ := wd_box hq3
    have s2 := hm2.rest.size
    have s3 : w2.heap.size < w3.heap.size := lt_of_block' hq3
    have M3 := hidX ((M1.out.trans hm2).trans (MkO.of_below hW3))
    have P3 := hidX (hp2.below hW3)
    have HRB3 := hidX ((hW3.block w.heap.size (by omega)).trans ((hm2.block w.heap.size hrb (fun e => by injection e; omega)).trans HQ1.out))
    have y2 := (wd_text HLX hq3).1
    have hbq := beq_lit (mkS (ptW x)) ruleT
    rw [bs_mkS] at hbq
    clear hW3 hm2 hp2 HF HQ1 M1 P1
    by_cases hk : ptW x = ruleT
    · have HR1 : Hid (pRule l = andP (takeW 97 l1) fun nm l2 => andP (takeW 48 l2) fun sl l3 => andP (pMany 62 pPat 6 l3) fun ps l4 => andP (takeW 62 l4) fun _ l5 => andP (pManyS 41 pAct 8 ([], 0) l5) fun q l6 => andP (takeW 41 l6) fun _ l7 => .ok (⟨mkS (ptW nm), sl.num, ps, q.2.1, q.1⟩, l7)) := show _ = _ from by unfold pRule; rw [hr, andP_okX, if_pos hk]
      rw [decide_eq_true hk] at hbq
      replace hbq : ((mkS (ptW x)).toList == [114, 117, 108, 101]) = true := hbq
      clear hk hr
      have c6 := P3.out.cell (j := 4) rfl
      have c7 := P3.out.cell (j := 5) rfl
      obtain ⟨cs3, hqp⟩ : ∃ cs, w3.heap[pb]? = some (.cells cs 70 (0, 0)) := by
        obtain ⟨k', hs'⟩ := P3.out.sc
        exact ⟨_, hs'.blk⟩
      have f6 := froz_of hqp 6
      have f7 := froz_of hqp 7
      go_upto_region 5 with fail
      refine lift_eq ?_
      intro w4 hw4
      have P4 := hidX (show PSt w4 pb src a c l1 (RL (.map (some mb)) cm rv lv (.slice none 0 0) (.int .i64 0)) from (P3.out.cellSet (j := 4) (v := .slice none 0 0) rfl).cellSet (j := 5) (v := .int .i64 0) hw4)
      have m4 : MkO (some pb) w3 w4 := by rw [hw4]; exact (MkO.set _).trans (MkO.set _)
      have M4 := hidX (M3.out.trans m4)
      have s4 := m4.rest.size
      have HRB4 := hidX ((m4.block w.heap.size (by omega) (fun e => by injection e; omega)).trans HRB3.out)
      clear hw4 m4 c6 c7 f6 f7 hqp P3 M3 HRB3 y2 hbq
      have HNM := hidX (take_any w4 pb src a c l1 _ 97 P4.out)
      cases hn : takeW 97 l1 with
      | error f =>
        have HT : Hid (pRule l = .error f) := show _ = _ from by rw [HR1.out, hn]; rfl
        rw [hn] at HNM
        go_wp2_with (first | (go_at_call 62; refine HNM.out.mono ?_; rintro e w5 ⟨hm5, rfl⟩; unfold fltE) | fail)
        exact ⟨rfl, RuPost.err HT.out (M4.out.trans hm5)⟩
      | ok p =>
        obtain ⟨nm, l2⟩ := p
        rw [hn] at HNM
        go_upto_region 6 with (first | (go_at_call 62; refine HNM.out.mono ?_; rintro e w5 ⟨hm5, hw5, hp5⟩; replace hw5 : e = .returned (pwA nm) := hw5; subst hw5; unfold pwA) | fail)
        refine lift_alloc ?_
        intro w6 hW6 hq6
        have s5 := hm5.rest.size
        have s6 : w5.heap.size < w6.heap.size := lt_of_block' hq6
        have P6 := hidX (hp5.below hW6)
        have M6 := hidX ((M4.out.trans hm5).trans (MkO.of_below hW6))
        have HB6 := hidX (show w6.heap[w5.heap.size]? = some (.cells (ruL (mkS (ptW nm)) 0 nilV nilV nilV).toArray 41 (0, 0)) from hq6)
        have HRB6 := hidX ((hW6.block w.heap.size (by omega)).trans ((hm5.block w.heap.size (by omega) (fun e => by injection e; omega)).trans HRB4.out))
        have HSL := hidX (take_any w6 pb src a c l2 _ 48 P6.out)
        clear hW6 hq6 hm5 hp5 HNM P4 M4 HRB4
        cases hs : takeW 48 l2 with
        | error f =>
          have HT : Hid (pRule l = .error f) := show _ = _ from by rw [HR1.out, hn, andP_okX, hs]; rfl
          rw [hs] at HSL
          go_wp2_with (first | (go_at_call 62; refine HSL.out.mono ?_; rintro e w7 ⟨hm7, rfl⟩; unfold fltE) | fail)
          exact ⟨rfl, RuPost.err HT.out (M6.out.trans hm7)⟩
        | ok p =>
          obtain ⟨sl, l3⟩ := p
          have HR2 : Hid (pRule l = andP (pMany 62 pPat 6 l3) fun ps l4 => andP (takeW 62 l4) fun _ l5 => andP (pManyS 41 pAct 8 ([], 0) l5) fun q l6 => andP (takeW 41 l6) fun _ l7 => .ok (⟨mkS (ptW nm), sl.num, ps, q.2.1, q.1⟩, l7)) := show _ = _ from by rw [HR1.out, hn, andP_okX, hs, andP_okX]
          rw [hs] at HSL
          clear hn hs HR1
          go_upto_block 0 with (first | (go_at_call 62; refine HSL.out.mono ?_; rintro e w7 ⟨hm7, hw7, hp7⟩; replace hw7 : e = .returned (pwA sl) := hw7; subst hw7; unfold pwA; have s7 := hm7.rest.size; have hq7 := (hm7.block w5.heap.size s6 (fun e => by injection e; omega)).trans HB6.out; have d1 := cell_of hq7 (j := 1) rfl; have f1 := froz_of hq7 1) | fail)
          refine lift_setW hq7 ?_
          intro w8 hq8 ht8
          have S8 := hidX (show PatS w w8 pb w5.heap.size w.heap.size src a c (.map (some mb)) cm rv lv (mkS (ptW nm)) sl.num l3 none 0 [] from ⟨(M6.out.trans hm7).turn ht8 (by omega), hp7.turned ht8 (by omega), NRow.nil _ _ _, hq8, (ht8.block w.heap.size (by omega)).trans ((hm7.block w.heap.size (by omega) (fun e => by injection e; omega)).trans HRB6.out)⟩)
          have hbx : w.heap.size < w5.heap.size := by omega
          clear hm7 hp7 s7 hq7 d1 f1 hq8 ht8 HSL HB6 HRB6 P6 M6
          go_cut [] (fun wx => ∃ l4 pa pc MP, PatS w wx pb w5.heap.size w.heap.size src a c (.map (some mb)) cm rv lv (mkS (ptW nm)) sl.num l4 pa pc MP ∧ pMany 62 pPat 6 l3 = .ok (MP.map Prod.fst, l4))
          case first =>
            go_wp2_with fail
            go_loopw [] (fun wr => ∃ (n : Nat) (l' : List Wd) (pa : Option Addr) (pc : Nat) (MP : List (Pt × Value)), MP.length + n = 6 ∧ PatS w wr pb w5.heap.size w.heap.size src a c (.map (some mb)) cm rv lv (mkS (ptW nm)) sl.num l' pa pc MP ∧ pMany 62 pPat 6 l3 = preL (MP.map Prod.fst) (pMany 62 pPat n l')) (fun wr => 6 - lenP w5.heap.size 2 wr)
            case atStart => exact ⟨6, l3, none, 0, [], rfl, S8.out, by unfold preL; cases pMany 62 pPat 6 l3 <;> rfl⟩
            case round =>
              obtain ⟨n, l', pa, pc, MP, hMn, hst, hpl⟩ := hrel
              have ST := hidX hst
              have PL := hidX hpl
              have HAH := hidX (ahead_any wr pb src a c l' _ 62 hst.ps)
              have c2 := cell_of hst.bq (j := 2) rfl
              have HML : Hid (lenP w5.heap.size 2 wr = MP.length) := show _ = _ from by unfold lenP; rw [c2]; rfl
              have hbl : w5.heap.size < wr.heap.size := lt_of_block' hst.bq
              clear hst hpl S8
              cases hr : nextW l' with
              | error f =>
                have HT : Hid (pRule l = .error f) := show _ = _ from by rw [HR2.out, PL.out, pMany_err hr]; rfl
                rw [hr] at HAH
                go_wp2_with (first | (go_at_call 38; refine HAH.out.mono ?_; rintro e w10 ⟨hb10, rfl⟩; unfold fltE) | fail)
                exact ⟨rfl, RuPost.err HT.out (ST.out.below hb10).mo⟩
              | ok p =>
                obtain ⟨x', r⟩ := p
                rw [hr] at HAH
                by_cases hx : pkW x' = 62
                · have HT : Hid (pMany 62 pPat 6 l3 = .ok (MP.map Prod.fst, l')) := show _ = _ from by rw [PL.out, pMany_end hr hx]; simp [preL]
                  replace HAH : Hid (Calls Tryz.prog 38 #[.pointer (some ⟨pb, 0, none⟩), .int .i32 62] wr fun e w' => Below wr.heap.size wr w' ∧ e = .returned (.bool true)) := by
                    rw [← decide_eq_true hx]
                    exact HAH
                  clear hx
                  go_wp2_with (first | (go_at_call 38; refine HAH.out.mono ?_; rintro e w10 ⟨hb10, rfl⟩) | fail)
                  go_meet
                  exact ⟨l', pa, pc, MP, ST.out.below hb10, HT.out⟩
                · replace HAH : Hid (Calls Tryz.prog 38 #[.pointer (some ⟨pb, 0, none⟩), .int .i32 62] wr fun e w' => Below wr.heap.size wr w' ∧ e = .returned (.bool false)) := by
                    rw [← decide_eq_false hx]
                    exact HAH
                  have HOP := hidX (fun u (hu : Below wr.heap.size wr u) => open_any u pb src a c l' _ (MP.length : Int) 6 (ST.out.below hu).ps)
                  have hnM : (MP.length : Int) = ((6 - n : Nat) : Int) := by omega
                  cases ho : openW (MP.length : Int) 6 l' with
                  | error f =>
                    have HT : Hid (pRule l = .error f) := show _ = _ from by rw [HR2.out, PL.out, pMany_open (m := 6) hr hx (by omega) (by rw [← hnM]; exact ho)]; rfl
                    rw [ho] at HOP
                    clear hx hnM ho
                    go_upto_region 8 with (first | (go_at_call 38; refine HAH.out.mono ?_; rintro e w10 ⟨hb10, rfl⟩) | fail)
                    have d2 := cell_below hb10 c2
                    go_wp2_with (first | (go_at_call 39; refine (HOP.out _ hb10).mono ?_; rintro e w11 ⟨hm11, rfl⟩; unfold fltE) | fail)
                    exact ⟨rfl, RuPost.err HT.out ((ST.out.below hb10).mo.trans hm11)⟩
                  | ok p =>
                    obtain ⟨y, l1'⟩ := p
                    obtain ⟨n, rfl, htk⟩ := pMany_more (m := 6) (n := n) hr (by omega) (by rw [← hnM]; exact ho)
                    rw [ho] at HOP
                    clear hnM ho
                    have HCM := hidX (fun u (hu : PSt u pb src a c l1' (RL (.map (some mb)) cm rv lv (.slice none 0 0) (.int .i64 0))) => ppattern_any u pb src a c l1' _ hu)
                    go_upto_region 8 with (first | (go_at_call 38; refine HAH.out.mono ?_; rintro e w10 ⟨hb10, rfl⟩) | fail)
                    have d2 := cell_below hb10 c2
                    go_upto_region 9 with (first | (go_at_call 39; refine (HOP.out _ hb10).mono ?_; rintro e w11 ⟨hm11, he11, hp11⟩; replace he11 : e = .returned (.tuple #[]) := he11; subst he11) | fail)
                    have S11 := hidX ((ST.out.below hb10).mko hm11 hp11 hpb (by omega) (by omega))
                    have s10 := hb10.size
                    have s11 := hm11.rest.size
                    have e2 := cell_of S11.out.bq (j := 2) rfl
                    clear hm11 hp11 hb10 d2 c2 HOP HAH
                    cases hc : pPat l1' with
                    | error f =>
                      have HT : Hid (pRule l = .error f) := show _ = _ from by rw [HR2.out, PL.out, pMany_bad hr hx htk hc]; rfl
                      rw [hc] at HCM
                      clear hx
                      refine wp_region_pa (fun ch u => RuPost w pb src a c (.map (some mb)) cm rv lv (pRule l) (.panicked ch) u) (fun _ _ _ h1 h2 => ⟨h1, h2⟩) ?_
                      refine wp_region_held_drew (S := (fun _ => True)) (by kernel_rfl) ?_ (fun hHeld => ?_)
                      · trivial
                      refine tkP 0 hHeld ?_
                      (try simp only [pA, pZ, pS])
                      refine tkP 2 hHeld ?_
                      (try simp only [pA, pZ, pS])
                      refine wpAnyH_ready (rs := [1, 3]) (by kernel_rfl) (by simp) ?_
                      refine AllReadyH.cons (o := ?o1) ?ho1 (fun K hK => ?step1) (AllReadyH.cons (o := ?o2) ?ho2 (fun K hK => ?step2) AllReadyH.nil)
                      case ho1 => (simp only [List.getElem?_toArray, List.getElem?_cons_succ, List.getElem?_cons_zero]; rfl)
                      case ho2 => (simp only [List.getElem?_toArray, List.getElem?_cons_succ, List.getElem?_cons_zero]; rfl)
                      case step1 =>
                        go_simp
                        refine hK.out _ _ ?hS3 (fun hHeld' => ?rest3)
                        case hS3 => ((try dsimp only); all_goals trivial)
                        clear hK K
                        (try simp only [pA, pZ, pS])
                        clear hHeld
                        have hHeld := hHeld'
                        clear hHeld'
                        refine wpAnyH_ready (rs := [3]) (by kernel_rfl) (by simp) ?_
                        refine AllReadyH.cons (o := ?o4) ?ho4 (fun K hK => ?step4) AllReadyH.nil
                        case ho4 => (simp only [List.getElem?_toArray, List.getElem?_cons_succ, List.getElem?_cons_zero]; rfl)
                        go_simp
                        (go_at_call 71; refine (HCM.out _ (S11.out.below ((Below.refl _ _).drew)).ps).mono ?_; rintro e w12 ⟨hm12, rfl⟩; unfold fltE)
                        go_wp2_with fail
                        exact ⟨rfl, RuPost.err HT.out (S11.out.mo.drew.trans hm12)⟩
                      case step2 =>
                        go_simp
                        (go_at_call 71; refine (HCM.out _ (S11.out.below ((Below.refl _ _).drew)).ps).mono ?_; rintro e w12 ⟨hm12, rfl⟩; unfold fltE)
                        go_wp2_with fail
                        exact ⟨rfl, RuPost.err HT.out (S11.out.mo.drew.trans hm12)⟩
                    | ok q =>
                      obtain ⟨v, l2'⟩ := q
                      have PL2 := hidX (PL.out.trans (pMany_step (M := MP.map Prod.fst) hr hx htk hc))
                      rw [hc] at HCM
                      clear hx
                      refine wp_region_noPanic ?_
                      refine wp_region_held_drew (S := (fun _ => True)) (by kernel_rfl) ?_ (fun hHeld => ?_)
                      · (try dsimp only)
                        all_goals trivial
                      refine tk 0 hHeld ?_
                      (try simp only [pA, pZ, pS])
                      refine tk 2 hHeld ?_
                      (try simp only [pA, pZ, pS])
                      refine wpAnyH_ready (rs := [1, 3]) (by kernel_rfl) (by simp) ?_
                      refine AllReadyH.cons (o := ?o5) ?ho5 (fun K hK => ?step5) (AllReadyH.cons (o := ?o6) ?ho6 (fun K hK => ?step6) AllReadyH.nil)
                      case ho5 => (simp only [List.getElem?_toArray, List.getElem?_cons_succ, List.getElem?_cons_zero]; rfl)
                      case ho6 => (simp only [List.getElem?_toArray, List.getElem?_cons_succ, List.getElem?_cons_zero]; rfl)
                      case step5 =>
                        go_simp
                        refine hK.out _ _ ?hS7 (fun hHeld' => ?rest7)
                        case hS7 => ((try dsimp only); all_goals trivial)
                        clear hK K
                        (try simp only [pA, pZ, pS])
                        clear hHeld
                        have hHeld := hHeld'
                        clear hHeld'
                        refine wpAnyH_ready (rs := [3]) (by kernel_rfl) (by simp) ?_
                        refine AllReadyH.cons (o := ?o8) ?ho8 (fun K hK => ?step8) AllReadyH.nil
                        case ho8 => (simp only [List.getElem?_toArray, List.getElem?_cons_succ, List.getElem?_cons_zero]; rfl)
                        go_simp
                        (go_at_call 71; refine (HCM.out _ (S11.out.below ((Below.refl _ _).drew)).ps).mono ?_; rintro e w12 ⟨hm12, ⟨va, vc, rfl, ho12⟩, hp12⟩; unfold ptP; have s12 := hm12.rest.size; simp at s12; have hq12 := (hm12.block w5.heap.size (by simp; omega) (fun e => by injection e; omega)).trans S11.out.bq; have g2 := cell_of hq12 (j := 2) rfl)
                        refine hK.out _ _ ?hS9 (fun hHeld' => ?rest9)
                        case hS9 => ((try dsimp only); all_goals trivial)
                        clear hK K
                        (try simp only [pA, pZ, pS])
                        clear hHeld
                        have hHeld := hHeld'
                        clear hHeld'
                        refine wpAnyH_ready (rs := [4]) (by kernel_rfl) (by simp) ?_
                        refine AllReadyH.cons (o := ?o10) ?ho10 (fun K hK => ?step10) AllReadyH.nil
                        case ho10 => (simp only [List.getElem?_toArray, List.getElem?_cons_succ, List.getElem?_cons_zero]; rfl)
                        go_simp
                        have HA12 := hidX (fun o' => (Below.refl _ _).alloc (Nat.le_refl _) o' : ∀ o', Below w12.heap.size w12 (w12.alloc o')); have g2a : ∀ o', (w12.alloc o').cell? ⟨w5.heap.size, 2, none⟩ = some (.slice pa MP.length pc) := fun o' => cell_below (HA12.out o') g2
                        refine hK.out _ _ ?hS11 (fun hHeld' => ?rest11)
                        case hS11 => ((try dsimp only); all_goals trivial)
                        clear hK K
                        (try simp only [pA, pZ, pS])
                        clear hHeld
                        have hHeld := hHeld'
                        clear hHeld'
                        have S12 := hidX ((S11.out.below ((Below.refl _ _).drew)).mko hm12 hp12 hpb (by omega) (by omega))
                        refine wpAnyH_ready (rs := [5]) (by kernel_rfl) (by simp) ?_
                        refine AllReadyH.cons (o := ?o12) ?ho12 (fun K hK => ?step12) AllReadyH.nil
                        case ho12 => (simp only [List.getElem?_toArray, List.getElem?_cons_succ, List.getElem?_cons_zero]; rfl)
                        (refine step_append_any (by rfl) (.tmp 36) (.tmp 39) 37 (by rfl) w.heap.size 45 _ 3 48 Tryz.underlying37 infoPF1 (by rfl) (by omega) _ MP.length _ (by rfl) (S12.out.below (HA12.out _)).pts.row (some ⟨_, 0, none⟩) 1 1 (by rfl) (ptP v (.slice va v.terms.length vc)) (by rfl) (fun e => by cases e) (news_new _ _ _ _ (by simp)) (ptP_one _ _ _ _) (by unfold maxLen; omega) (by omega) (by have := S12.out.mo.rest.size; simp; omega) ?_; intro a13 c13 w13 ho13 hg13 hl13)
                        refine hK.out _ _ ?hS13 (fun hHeld' => ?rest13)
                        case hS13 => ((try dsimp only); all_goals trivial)
                        clear hK K
                        (try simp only [pA, pZ, pS])
                        clear hHeld
                        have hHeld := hHeld'
                        clear hHeld'
                        have hrow : ∀ k, (Value.slice pa MP.length pc).ownBlock = some k → w.heap.size ≤ k := fun k hk => (S12.out.pts.rlt k hk).1
                        have SA := hidX (fun o' => S12.out.below (HA12.out o'))
                        have N13 := hidX (NRow.more (S11.out.below ((Below.refl _ _).drew)).pts (SA.out _).pts ho12 (Nat.le_refl _) (by simp; omega) ⟨va, vc, rfl⟩ (own_bel ho12 (HA12.out _)) hg13.out ho13.out (by decide))
                        have P13 := hidX ((SA.out _).ps.keep ((Below.refl _ _).grown hg13.out (by simp; omega) (fun k hk => by have := hrow k hk; omega)))
                        have B13 := hidX (box_grown (SA.out _).bq hg13.out (SA.out _).pts.rty (by decide))
                        have R13 := hidX (box_grown (SA.out _).rq hg13.out (SA.out _).pts.rty (by decide))
                        have M13 := hidX ((SA.out _).mo.grown hg13.out hrow)
                        have f2 := cell_of B13.out (j := 2) rfl
                        have z2 := froz_of B13.out 2
                        have s13 : w5.heap.size < w13.heap.size := lt_of_block' B13.out
                        refine tk 6 hHeld ?_
                        (try simp only [pA, pZ, pS])
                        refine wpAnyH_ready (rs := [7]) (by kernel_rfl) (by simp) ?_
                        refine AllReadyH.cons (o := ?o14) ?ho14 (fun K hK => ?step14) AllReadyH.nil
                        case ho14 => (simp only [List.getElem?_toArray, List.getElem?_cons_succ, List.getElem?_cons_zero]; rfl)
                        go_simp
                        refine hK.out _ _ ?hS15 (fun hHeld' => ?rest15)
                        case hS15 => ((try dsimp only); all_goals trivial)
                        clear hK K
                        (try dsimp only)
                        clear hHeld
                        have hHeld := hHeld'
                        clear hHeld'
                        refine wpAnyH_done (by kernel_rfl) ?_ _
                        refine NoPanic.normal ?_
                        clear hHeld
                        refine lift_setW B13.out ?_
                        intro w14 hq14 ht14
                        have S14 := hidX (show PatS w w14 pb w5.heap.size w.heap.size src a c (.map (some mb)) cm rv lv (mkS (ptW nm)) sl.num l2' a13 c13 (MP ++ [(v, .slice va v.terms.length vc)]) from ⟨M13.out.turn ht14 (by omega), P13.out.turned ht14 (by omega), N13.out.turned ht14 B13.out (by decide) (by decide), by simpa [ruL] using hq14, (ht14.block w.heap.size (by omega)).trans R13.out⟩)
                        have HL14 : Hid (lenP w5.heap.size 2 w14 = MP.length + 1) := show _ = _ from by unfold lenP; rw [cell_of S14.out.bq (j := 2) rfl]; simp [sliceLen]
                        clear hq14 ht14 f2 z2
                        go_wp2_with fail
                        go_roundw
                        case rel => exact ⟨n, l2', a13, c13, MP ++ [(v, .slice va v.terms.length vc)], by simp; omega, S14.out, by simpa using PL2.out⟩
                        case measure =>
                          change 6 - lenP w5.heap.size 2 w14 < 6 - lenP w5.heap.size 2 wr
                          rw [HL14.out, HML.out]
                          omega
                      case step6 =>
                        go_simp
                        (go_at_call 71; refine (HCM.out _ (S11.out.below ((Below.refl _ _).drew)).ps).mono ?_; rintro e w12 ⟨hm12, ⟨va, vc, rfl, ho12⟩, hp12⟩; unfold ptP; have s12 := hm12.rest.size; simp at s12; have hq12 := (hm12.block w5.heap.size (by simp; omega) (fun e => by injection e; omega)).trans S11.out.bq; have g2 := cell_of hq12 (j := 2) rfl)
                        refine hK.out _ _ ?hS16 (fun hHeld' => ?rest16)
                        case hS16 => ((try dsimp only); all_goals trivial)
                        clear hK K
                        (try simp only [pA, pZ, pS])
                        clear hHeld
                        have hHeld := hHeld'
                        clear hHeld'
                        refine wpAnyH_ready (rs := [1, 4]) (by kernel_rfl) (by simp) ?_
                        refine AllReadyH.cons (o := ?o17) ?ho17 (fun K hK => ?step17) (AllReadyH.cons (o := ?o18) ?ho18 (fun K hK => ?step18) AllReadyH.nil)
                        case ho17 => (simp only [List.getElem?_toArray, List.getElem?_cons_succ, List.getElem?_cons_zero]; rfl)
                        case ho18 => (simp only [List.getElem?_toArray, List.getElem?_cons_succ, List.getElem?_cons_zero]; rfl)
                        case step17 =>
                          go_simp
                          refine hK.out _ _ ?hS19 (fun hHeld' => ?rest19)
                          case hS19 => ((try dsimp only); all_goals trivial)
                          clear hK K
                          (try simp only [pA, pZ, pS])
                          clear hHeld
                          have hHeld := hHeld'
                          clear hHeld'
                          refine wpAnyH_ready (rs := [4]) (by kernel_rfl) (by simp) ?_
                          refine AllReadyH.cons (o := ?o20) ?ho20 (fun K hK => ?step20) AllReadyH.nil
                          case ho20 => (simp only [List.getElem?_toArray, List.getElem?_cons_succ, List.getElem?_cons_zero]; rfl)
                          go_simp
                          have HA12 := hidX (fun o' => (Below.refl _ _).alloc (Nat.le_refl _) o' : ∀ o', Below w12.heap.size w12 (w12.alloc o')); have g2a : ∀ o', (w12.alloc o').cell? ⟨w5.heap.size, 2, none⟩ = some (.slice pa MP.length pc) := fun o' => cell_below (HA12.out o') g2
                          refine hK.out _ _ ?hS21 (fun hHeld' => ?rest21)
                          case hS21 => ((try dsimp only); all_goals trivial)
                          clear hK K
                          (try simp only [pA, pZ, pS])
                          clear hHeld
                          have hHeld := hHeld'
                          clear hHeld'
                          have S12 := hidX ((S11.out.below ((Below.refl _ _).drew)).mko hm12 hp12 hpb (by omega) (by omega))
                          refine wpAnyH_ready (rs := [5]) (by kernel_rfl) (by simp) ?_
                          refine AllReadyH.cons (o := ?o22) ?ho22 (fun K hK => ?step22) AllReadyH.nil
                          case ho22 => (simp only [List.getElem?_toArray, List.getElem?_cons_succ, List.getElem?_cons_zero]; rfl)
                          (refine step_append_any (by rfl) (.tmp 36) (.tmp 39) 37 (by rfl) w.heap.size 45 _ 3 48 Tryz.underlying37 infoPF1 (by rfl) (by omega) _ MP.length _ (by rfl) (S12.out.below (HA12.out _)).pts.row (some ⟨_, 0, none⟩) 1 1 (by rfl) (ptP v (.slice va v.terms.length vc)) (by rfl) (fun e => by cases e) (news_new _ _ _ _ (by simp)) (ptP_one _ _ _ _) (by unfold maxLen; omega) (by omega) (by have := S12.out.mo.rest.size; simp; omega) ?_; intro a13 c13 w13 ho13 hg13 hl13)
                          refine hK.out _ _ ?hS23 (fun hHeld' => ?rest23)
                          case hS23 => ((try dsimp only); all_goals trivial)
                          clear hK K
                          (try simp only [pA, pZ, pS])
                          clear hHeld
                          have hHeld := hHeld'
                          clear hHeld'
                          have hrow : ∀ k, (Value.slice pa MP.length pc).ownBlock = some k → w.heap.size ≤ k := fun k hk => (S12.out.pts.rlt k hk).1
                          have SA := hidX (fun o' => S12.out.below (HA12.out o'))
                          have N13 := hidX (NRow.more (S11.out.below ((Below.refl _ _).drew)).pts (SA.out _).pts ho12 (Nat.le_refl _) (by simp; omega) ⟨va, vc, rfl⟩ (own_bel ho12 (HA12.out _)) hg13.out ho13.out (by decide))
                          have P13 := hidX ((SA.out _).ps.keep ((Below.refl _ _).grown hg13.out (by simp; omega) (fun k hk => by have := hrow k hk; omega)))
                          have B13 := hidX (box_grown (SA.out _).bq hg13.out (SA.out _).pts.rty (by decide))
                          have R13 := hidX (box_grown (SA.out _).rq hg13.out (SA.out _).pts.rty (by decide))
                          have M13 := hidX ((SA.out _).mo.grown hg13.out hrow)
                          have f2 := cell_of B13.out (j := 2) rfl
                          have z2 := froz_of B13.out 2
                          have s13 : w5.heap.size < w13.heap.size := lt_of_block' B13.out
                          refine tk 6 hHeld ?_
                          (try simp only [pA, pZ, pS])
                          refine wpAnyH_ready (rs := [7]) (by kernel_rfl) (by simp) ?_
                          refine AllReadyH.cons (o := ?o24) ?ho24 (fun K hK => ?step24) AllReadyH.nil
                          case ho24 => (simp only [List.getElem?_toArray, List.getElem?_cons_succ, List.getElem?_cons_zero]; rfl)
                          go_simp
                          refine hK.out _ _ ?hS25 (fun hHeld' => ?rest25)
                          case hS25 => ((try dsimp only); all_goals trivial)
                          clear hK K
                          (try dsimp only)
                          clear hHeld
                          have hHeld := hHeld'
                          clear hHeld'
                          refine wpAnyH_done (by kernel_rfl) ?_ _
                          refine NoPanic.normal ?_
                          clear hHeld
                          refine lift_setW B13.out ?_
                          intro w14 hq14 ht14
                          have S14 := hidX (show PatS w w14 pb w5.heap.size w.heap.size src a c (.map (some mb)) cm rv lv (mkS (ptW nm)) sl.num l2' a13 c13 (MP ++ [(v, .slice va v.terms.length vc)]) from ⟨M13.out.turn ht14 (by omega), P13.out.turned ht14 (by omega), N13.out.turned ht14 B13.out (by decide) (by decide), by simpa [ruL] using hq14, (ht14.block w.heap.size (by omega)).trans R13.out⟩)
                          have HL14 : Hid (lenP w5.heap.size 2 w14 = MP.length + 1) := show _ = _ from by unfold lenP; rw [cell_of S14.out.bq (j := 2) rfl]; simp [sliceLen]
                          clear hq14 ht14 f2 z2
                          go_wp2_with fail
                          go_roundw
                          case rel => exact ⟨n, l2', a13, c13, MP ++ [(v, .slice va v.terms.length vc)], by simp; omega, S14.out, by simpa using PL2.out⟩
                          case measure =>
                            change 6 - lenP w5.heap.size 2 w14 < 6 - lenP w5.heap.size 2 wr
                            rw [HL14.out, HML.out]
                            omega
                        case step18 =>
                          go_simp
                          have HA12 := hidX (fun o' => (Below.refl _ _).alloc (Nat.le_refl _) o' : ∀ o', Below w12.heap.size w12 (w12.alloc o')); have g2a : ∀ o', (w12.alloc o').cell? ⟨w5.heap.size, 2, none⟩ = some (.slice pa MP.length pc) := fun o' => cell_below (HA12.out o') g2
                          refine hK.out _ _ ?hS26 (fun hHeld' => ?rest26)
                          case hS26 => ((try dsimp only); all_goals trivial)
                          clear hK K
                          (try simp only [pA, pZ, pS])
                          clear hHeld
                          have hHeld := hHeld'
                          clear hHeld'
                          refine wpAnyH_ready (rs := [1]) (by kernel_rfl) (by simp) ?_
                          refine AllReadyH.cons (o := ?o27) ?ho27 (fun K hK => ?step27) AllReadyH.nil
                          case ho27 => (simp only [List.getElem?_toArray, List.getElem?_cons_succ, List.getElem?_cons_zero]; rfl)
                          go_simp
                          refine hK.out _ _ ?hS28 (fun hHeld' => ?rest28)
                          case hS28 => ((try dsimp only); all_goals trivial)
                          clear hK K
                          (try simp only [pA, pZ, pS])
                          clear hHeld
                          have hHeld := hHeld'
                          clear hHeld'
                          have S12 := hidX ((S11.out.below ((Below.refl _ _).drew)).mko hm12 hp12 hpb (by omega) (by omega))
                          refine wpAnyH_ready (rs := [5]) (by kernel_rfl) (by simp) ?_
                          refine AllReadyH.cons (o := ?o29) ?ho29 (fun K hK => ?step29) AllReadyH.nil
                          case ho29 => (simp only [List.getElem?_toArray, List.getElem?_cons_succ, List.getElem?_cons_zero]; rfl)
                          (refine step_append_any (by rfl) (.tmp 36) (.tmp 39) 37 (by rfl) w.heap.size 45 _ 3 48 Tryz.underlying37 infoPF1 (by rfl) (by omega) _ MP.length _ (by rfl) (S12.out.below (HA12.out _)).pts.row (some ⟨_, 0, none⟩) 1 1 (by rfl) (ptP v (.slice va v.terms.length vc)) (by rfl) (fun e => by cases e) (news_new _ _ _ _ (by simp)) (ptP_one _ _ _ _) (by unfold maxLen; omega) (by omega) (by have := S12.out.mo.rest.size; simp; omega) ?_; intro a13 c13 w13 ho13 hg13 hl13)
                          refine hK.out _ _ ?hS30 (fun hHeld' => ?rest30)
                          case hS30 => ((try dsimp only); all_goals trivial)
                          clear hK K
                          (try simp only [pA, pZ, pS])
                          clear hHeld
                          have hHeld := hHeld'
                          clear hHeld'
                          have hrow : ∀ k, (Value.slice pa MP.length pc).ownBlock = some k → w.heap.size ≤ k := fun k hk => (S12.out.pts.rlt k hk).1
                          have SA := hidX (fun o' => S12.out.below (HA12.out o'))
                          have N13 := hidX (NRow.more (S11.out.below ((Below.refl _ _).drew)).pts (SA.out _).pts ho12 (Nat.le_refl _) (by simp; omega) ⟨va, vc, rfl⟩ (own_bel ho12 (HA12.out _)) hg13.out ho13.out (by decide))
                          have P13 := hidX ((SA.out _).ps.keep ((Below.refl _ _).grown hg13.out (by simp; omega) (fun k hk => by have := hrow k hk; omega)))
                          have B13 := hidX (box_grown (SA.out _).bq hg13.out (SA.out _).pts.rty (by decide))
                          have R13 := hidX (box_grown (SA.out _).rq hg13.out (SA.out _).pts.rty (by decide))
                          have M13 := hidX ((SA.out _).mo.grown hg13.out hrow)
                          have f2 := cell_of B13.out (j := 2) rfl
                          have z2 := froz_of B13.out 2
                          have s13 : w5.heap.size < w13.heap.size := lt_of_block' B13.out
                          refine tk 6 hHeld ?_
                          (try simp only [pA, pZ, pS])
                          refine wpAnyH_ready (rs := [7]) (by kernel_rfl) (by simp) ?_
                          refine AllReadyH.cons (o := ?o31) ?ho31 (fun K hK => ?step31) AllReadyH.nil
                          case ho31 => (simp only [List.getElem?_toArray, List.getElem?_cons_succ, List.getElem?_cons_zero]; rfl)
                          go_simp
                          refine hK.out _ _ ?hS32 (fun hHeld' => ?rest32)
                          case hS32 => ((try dsimp only); all_goals trivial)
                          clear hK K
                          (try dsimp only)
                          clear hHeld
                          have hHeld := hHeld'
                          clear hHeld'
                          refine wpAnyH_done (by kernel_rfl) ?_ _
                          refine NoPanic.normal ?_
                          clear hHeld
                          refine lift_setW B13.out ?_
                          intro w14 hq14 ht14
                          have S14 := hidX (show PatS w w14 pb w5.heap.size w.heap.size src a c (.map (some mb)) cm rv lv (mkS (ptW nm)) sl.num l2' a13 c13 (MP ++ [(v, .slice va v.terms.length vc)]) from ⟨M13.out.turn ht14 (by omega), P13.out.turned ht14 (by omega), N13.out.turned ht14 B13.out (by decide) (by decide), by simpa [ruL] using hq14, (ht14.block w.heap.size (by omega)).trans R13.out⟩)
                          have HL14 : Hid (lenP w5.heap.size 2 w14 = MP.length + 1) := show _ = _ from by unfold lenP; rw [cell_of S14.out.bq (j := 2) rfl]; simp [sliceLen]
                          clear hq14 ht14 f2 z2
                          go_wp2_with fail
                          go_roundw
                          case rel => exact ⟨n, l2', a13, c13, MP ++ [(v, .slice va v.terms.length vc)], by simp; omega, S14.out, by simpa using PL2.out⟩
                          case measure =>
                            change 6 - lenP w5.heap.size 2 w14 < 6 - lenP w5.heap.size 2 wr
                            rw [HL14.out, HML.out]
                            omega
          case rest =>
            obtain ⟨l4, pa, pc, MP, hst, hpm⟩ := hcut
            obtain ⟨w9, rfl⟩ : ∃ v, v = wc := ⟨wc, rfl⟩
            have ST := hidX hst
            have HR3 : Hid (pRule l = andP (takeW 62 l4) fun _ l5 => andP (pManyS 41 pAct 8 ([], 0) l5) fun q l6 => andP (takeW 41 l6) fun _ l7 => .ok (⟨mkS (ptW nm), sl.num, MP.map Prod.fst, q.2.1, q.1⟩, l7)) := show _ = _ from by rw [HR2.out, hpm]; rfl
            have HTH := hidX (take_any w9 pb src a c l4 _ 62 hst.ps)
            clear hst hpm S8 HR2
            cases hth : takeW 62 l4 with
            | error f =>
              have HT : Hid (pRule l = .error f) := show _ = _ from by rw [HR3.out, hth]; rfl
              rw [hth] at HTH
              go_wp2_with (first | (go_at_call 62; refine HTH.out.mono ?_; rintro e w20 ⟨hm20, rfl⟩; unfold fltE) | fail)
              exact ⟨rfl, RuPost.err HT.out (ST.out.mo.trans hm20)⟩
            | ok p =>
              obtain ⟨th, l5⟩ := p
              have HR4 : Hid (pRule l = andP (pManyS 41 pAct 8 ([], 0) l5) fun q l6 => andP (takeW 41 l6) fun _ l7 => .ok (⟨mkS (ptW nm), sl.num, MP.map Prod.fst, q.2.1, q.1⟩, l7)) := show _ = _ from by rw [HR3.out, hth]; rfl
              rw [hth] at HTH
              clear hth HR3
              go_upto_block 2 with (first | (go_at_call 62; refine HTH.out.mono ?_; rintro e w20 ⟨hm20, hw20, hp20⟩; replace hw20 : e = .returned (pwA th) := hw20; subst hw20; unfold pwA) | fail)
              have S20 := hidX (show ActS w w20 pb w5.heap.size w.heap.size src a c (.map (some mb)) cm rv lv (mkS (ptW nm)) sl.num pa pc MP l5 ([], 0) none 0 none 0 [] from ⟨ST.out.mo.trans hm20, ⟨hp20, World.ownsRow_nil _ _ _ _, hpb, (ST.out.mo.trans hm20).rest.size⟩, ST.out.pts.mko hm20 hpb, NRow.nil _ _ _, (hm20.block w5.heap.size (lt_of_block' ST.out.bq) (fun e => by injection e; omega)).trans ST.out.bq, (hm20.block w.heap.size (lt_of_block' ST.out.rq) (fun e => by injection e; omega)).trans ST.out.rq, by simp, by simp⟩)
              clear hm20 hp20 HTH ST
              go_cut [] (fun wx => ∃ l6 s' ea' ec' aa ac MA, ActS w wx pb w5.heap.size w.heap.size src a c (.map (some mb)) cm rv lv (mkS (ptW nm)) sl.num pa pc MP l6 s' ea' ec' aa ac MA ∧ pManyS 41 pAct 8 ([], 0) l5 = .ok ((MA.map Prod.fst, s'), l6))
              case first =>
                go_wp2_with fail
                go_loopw [] (fun wr => ∃ (n : Nat) (l' : List Wd) (s' : ES) (ea' : Option Addr) (ec' : Nat) (aa : Option Addr) (ac : Nat) (MA : List (Ac × Value)), MA.length + n = 8 ∧ ActS w wr pb w5.heap.size w.heap.size src a c (.map (some mb)) cm rv lv (mkS (ptW nm)) sl.num pa pc MP l' s' ea' ec' aa ac MA ∧ pManyS 41 pAct 8 ([], 0) l5 = preE (MA.map Prod.fst) (pManyS 41 pAct n s' l')) (fun wr => 8 - lenP w5.heap.size 4 wr)
                case atStart => exact ⟨8, l5, ([], 0), none, 0, none, 0, [], rfl, S20.out, by unfold preE; cases pManyS 41 pAct 8 ([], 0) l5 <;> rfl⟩
                case round =>
                  obtain ⟨n, l', s', ea', ec', aa, ac, MA, hMn, hst, hpl⟩ := hrel
                  have ST := hidX hst
                  have PL := hidX hpl
                  have HAH := hidX (ahead_any wr pb src a c l' _ 41 hst.st.ps)
                  have c4 := cell_of hst.bq (j := 4) rfl
                  have HML : Hid (lenP w5.heap.size 4 wr = MA.length) := show _ = _ from by unfold lenP; rw [c4]; rfl
                  have hbl : w5.heap.size < wr.heap.size := lt_of_block' hst.bq
                  clear hst hpl S20
                  cases hr : nextW l' with
                  | error f =>
                    have HT : Hid (pRule l = .error f) := show _ = _ from by rw [HR4.out, PL.out, pManyS_err hr]; rfl
                    rw [hr] at HAH
                    go_wp2_with (first | (go_at_call 38; refine HAH.out.mono ?_; rintro e w10 ⟨hb10, rfl⟩; unfold fltE) | fail)
                    exact ⟨rfl, RuPost.err HT.out (ST.out.below hb10).mo⟩
                  | ok p =>
                    obtain ⟨x', r⟩ := p
                    rw [hr] at HAH
                    by_cases hx : pkW x' = 41
                    · have HT : Hid (pManyS 41 pAct 8 ([], 0) l5 = .ok ((MA.map Prod.fst, s'), l')) := show _ = _ from by rw [PL.out, pManyS_end hr hx]; simp [preE]
                      replace HAH : Hid (Calls Tryz.prog 38 #[.pointer (some ⟨pb, 0, none⟩), .int .i32 41] wr fun e w' => Below wr.heap.size wr w' ∧ e = .returned (.bool true)) := by
                        rw [← decide_eq_true hx]
                        exact HAH
                      clear hx
                      go_wp2_with (first | (go_at_call 38; refine HAH.out.mono ?_; rintro e w10 ⟨hb10, rfl⟩) | fail)
                      go_meet
                      exact ⟨l', s', ea', ec', aa, ac, MA, ST.out.below hb10, HT.out⟩
                    · replace HAH : Hid (Calls Tryz.prog 38 #[.pointer (some ⟨pb, 0, none⟩), .int .i32 41] wr fun e w' => Below wr.heap.size wr w' ∧ e = .returned (.bool false)) := by
                        rw [← decide_eq_false hx]
                        exact HAH
                      have HOP := hidX (fun u (hu : Below wr.heap.size wr u) => open_any u pb src a c l' _ (MA.length : Int) 8 (ST.out.below hu).st.ps)
                      have hnM : (MA.length : Int) = ((8 - n : Nat) : Int) := by omega
                      cases ho : openW (MA.length : Int) 8 l' with
                      | error f =>
                        have HT : Hid (pRule l = .error f) := show _ = _ from by rw [HR4.out, PL.out, pManyS_open (m := 8) hr hx (by omega) (by rw [← hnM]; exact ho)]; rfl
                        rw [ho] at HOP
                        clear hx hnM ho
                        go_upto_region 12 with (first | (go_at_call 38; refine HAH.out.mono ?_; rintro e w10 ⟨hb10, rfl⟩) | fail)
                        have d4 := cell_below hb10 c4
                        go_wp2_with (first | (go_at_call 39; refine (HOP.out _ hb10).mono ?_; rintro e w11 ⟨hm11, rfl⟩; unfold fltE) | fail)
                        exact ⟨rfl, RuPost.err HT.out ((ST.out.below hb10).mo.trans hm11)⟩
                      | ok p =>
                        obtain ⟨y, l1'⟩ := p
                        obtain ⟨n, rfl, htk⟩ := pMany_more (m := 8) (n := n) hr (by omega) (by rw [← hnM]; exact ho)
                        rw [ho] at HOP
                        clear hnM ho
                        go_upto_region 12 with (first | (go_at_call 38; refine HAH.out.mono ?_; rintro e w10 ⟨hb10, rfl⟩) | fail)
                        have d4 := cell_below hb10 c4
                        go_upto_region 13 with (first | (go_at_call 39; refine (HOP.out _ hb10).mono ?_; rintro e w11 ⟨hm11, he11, hp11⟩; replace he11 : e = .returned (.tuple #[]) := he11; subst he11) | fail)
                        have S11 := hidX ((ST.out.below hb10).mko hm11 hp11 (by omega) (by omega))
                        have HCM := hidX (paction_any w11.drew w.heap.size pb mb src a c l1' cm rv lv s' ea' ec' (S11.out.below ((Below.refl _ _).drew)).st S11.out.hk S11.out.h60 (HM.out.mko S11.out.mo.drew (Nat.ne_of_lt hne)) hne)
                        have s10 := hb10.size
                        have s11 := hm11.rest.size
                        have e4 := cell_of S11.out.bq (j := 4) rfl
                        clear hm11 hp11 hb10 d4 c4 HOP HAH
                        cases hc : pAct s' l1' with
                        | error f =>
                          have HT : Hid (pRule l = .error f) := show _ = _ from by rw [HR4.out, PL.out, pManyS_bad hr hx htk hc]; rfl
                          rw [hc] at HCM
                          clear hx
                          refine wp_region_pa (fun ch u => RuPost w pb src a c (.map (some mb)) cm rv lv (pRule l) (.panicked ch) u) (fun _ _ _ h1 h2 => ⟨h1, h2⟩) ?_
                          refine wp_region_held_drew (S := (fun _ => True)) (by kernel_rfl) ?_ (fun hHeld => ?_)
                          · trivial
                          refine tkP 0 hHeld ?_
                          (try simp only [pA, pZ, pS])
                          refine tkP 2 hHeld ?_
                          (try simp only [pA, pZ, pS])
                          refine wpAnyH_ready (rs := [1, 3]) (by kernel_rfl) (by simp) ?_
                          refine AllReadyH.cons (o := ?o33) ?ho33 (fun K hK => ?step33) (AllReadyH.cons (o := ?o34) ?ho34 (fun K hK => ?step34) AllReadyH.nil)
                          case ho33 => (simp only [List.getElem?_toArray, List.getElem?_cons_succ, List.getElem?_cons_zero]; rfl)
                          case ho34 => (simp only [List.getElem?_toArray, List.getElem?_cons_succ, List.getElem?_cons_zero]; rfl)
                          case step33 =>
                            go_simp
                            refine hK.out _ _ ?hS35 (fun hHeld' => ?rest35)
                            case hS35 => ((try dsimp only); all_goals trivial)
                            clear hK K
                            (try simp only [pA, pZ, pS])
                            clear hHeld
                            have hHeld := hHeld'
                            clear hHeld'
                            refine wpAnyH_ready (rs := [3]) (by kernel_rfl) (by simp) ?_
                            refine AllReadyH.cons (o := ?o36) ?ho36 (fun K hK => ?step36) AllReadyH.nil
                            case ho36 => (simp only [List.getElem?_toArray, List.getElem?_cons_succ, List.getElem?_cons_zero]; rfl)
                            go_simp
                            (go_at_call 72; refine (HCM.out).mono ?_; rintro e w12 ⟨hm12, rfl⟩; unfold fltE)
                            go_wp2_with fail
                            exact ⟨rfl, RuPost.err HT.out (S11.out.mo.drew.mkx hm12 (fun g hg => (S11.out.st.ow.lt g hg).1))⟩
                          case step34 =>
                            go_simp
                            (go_at_call 72; refine (HCM.out).mono ?_; rintro e w12 ⟨hm12, rfl⟩; unfold fltE)
                            go_wp2_with fail
                            exact ⟨rfl, RuPost.err HT.out (S11.out.mo.drew.mkx hm12 (fun g hg => (S11.out.st.ow.lt g hg).1))⟩
                        | ok q =>
                          obtain ⟨⟨v, s2⟩, l2'⟩ := q
                          obtain ⟨hk2, h62⟩ := pAct_inv ST.out.hk ST.out.h60 hc
                          have PL2 := hidX (PL.out.trans (pManyS_step (M := MA.map Prod.fst) hr hx htk hc))
                          rw [hc] at HCM
                          clear hx
                          refine wp_region_noPanic ?_
                          refine wp_region_held_drew (S := (fun _ => True)) (by kernel_rfl) ?_ (fun hHeld => ?_)
                          · (try dsimp only)
                            all_goals trivial
                          refine tk 0 hHeld ?_
                          (try simp only [pA, pZ, pS])
                          refine tk 2 hHeld ?_
                          (try simp only [pA, pZ, pS])
                          refine wpAnyH_ready (rs := [1, 3]) (by kernel_rfl) (by simp) ?_
                          refine AllReadyH.cons (o := ?o37) ?ho37 (fun K hK => ?step37) (AllReadyH.cons (o := ?o38) ?ho38 (fun K hK => ?step38) AllReadyH.nil)
                          case ho37 => (simp only [List.getElem?_toArray, List.getElem?_cons_succ, List.getElem?_cons_zero]; rfl)
                          case ho38 => (simp only [List.getElem?_toArray, List.getElem?_cons_succ, List.getElem?_cons_zero]; rfl)
                          case step37 =>
                            go_simp
                            refine hK.out _ _ ?hS39 (fun hHeld' => ?rest39)
                            case hS39 => ((try dsimp only); all_goals trivial)
                            clear hK K
                            (try simp only [pA, pZ, pS])
                            clear hHeld
                            have hHeld := hHeld'
                            clear hHeld'
                            refine wpAnyH_ready (rs := [3]) (by kernel_rfl) (by simp) ?_
                            refine AllReadyH.cons (o := ?o40) ?ho40 (fun K hK => ?step40) AllReadyH.nil
                            case ho40 => (simp only [List.getElem?_toArray, List.getElem?_cons_succ, List.getElem?_cons_zero]; rfl)
                            go_simp
                            (go_at_call 72; refine HCM.out.mono ?_; rintro e w12 ⟨hm12, ⟨va, vc, rfl, ho12⟩, ea12, ec12, hs12, hr12⟩; unfold acL; have s12 := hm12.rest.size; simp at s12; have hq12 := (hm12.block w5.heap.size (by simp; omega) (by omega) (fun e => box_ne S11.out.st.ow S11.out.bq e rfl)).trans S11.out.bq; have g4 := cell_of hq12 (j := 4) rfl)
                            refine hK.out _ _ ?hS41 (fun hHeld' => ?rest41)
                            case hS41 => ((try dsimp only); all_goals trivial)
                            clear hK K
                            (try dsimp only)
                            clear hHeld
                            have hHeld := hHeld'
                            clear hHeld'
                            refine wpAnyH_ready (rs := [4]) (by kernel_rfl) (by simp) ?_
                            refine AllReadyH.cons (o := ?o42) ?ho42 (fun K hK => ?step42) AllReadyH.nil
                            case ho42 => (simp only [List.getElem?_toArray, List.getElem?_cons_succ, List.getElem?_cons_zero]; rfl)
                            go_simp
                            have HA12 := hidX (fun o' => (Below.refl _ _).alloc (Nat.le_refl _) o' : ∀ o', Below w12.heap.size w12 (w12.alloc o')); have g4a : ∀ o', (w12.alloc o').cell? ⟨w5.heap.size, 4, none⟩ = some (.slice aa MA.length ac) := fun o' => cell_below (HA12.out o') g4
                            refine hK.out _ _ ?hS43 (fun hHeld' => ?rest43)
                            case hS43 => ((try dsimp only); all_goals trivial)
                            clear hK K
                            (try simp only [pA, pZ, pS])
                            clear hHeld
                            have hHeld := hHeld'
                            clear hHeld'
                            have S12 := hidX ((S11.out.below ((Below.refl _ _).drew)).mkx hm12 hs12 (by omega) (by omega) hk2 h62)
                            refine wpAnyH_ready (rs := [5]) (by kernel_rfl) (by simp) ?_
                            refine AllReadyH.cons (o := ?o44) ?ho44 (fun K hK => ?step44) AllReadyH.nil
                            case ho44 => (simp only [List.getElem?_toArray, List.getElem?_cons_succ, List.getElem?_cons_zero]; rfl)
                            (refine step_append_any (by rfl) (.tmp 53) (.tmp 56) 39 (by rfl) w.heap.size 53 _ 4 56 Tryz.underlying39 infoAF1 (by rfl) (by omega) _ MA.length _ (by rfl) (S12.out.below (HA12.out _)).acs.row (some ⟨_, 0, none⟩) 1 1 (by rfl) (acL v (.slice va v.args.length vc)) (by rfl) (fun e => by cases e) (news_new _ _ _ _ (by simp)) (acL_one _ _ _ _) (by unfold maxLen; omega) (by omega) (by have := S12.out.mo.rest.size; simp; omega) ?_; intro a13 c13 w13 ho13 hg13 hl13)
                            refine hK.out _ _ ?hS45 (fun hHeld' => ?rest45)
                            case hS45 => ((try dsimp only); all_goals trivial)
                            clear hK K
                            (try simp only [pA, pZ, pS])
                            clear hHeld
                            have hHeld := hHeld'
                            clear hHeld'
                            have hrow : ∀ k, (Value.slice aa MA.length ac).ownBlock = some k → w.heap.size ≤ k := fun k hk => (S12.out.acs.rlt k hk).1
                            have SA := hidX (fun o' => S12.out.below (HA12.out o'))
                            have N13 := hidX (NRow.more (S11.out.below ((Below.refl _ _).drew)).acs (SA.out _).acs ho12 (Nat.le_refl _) (by simp; omega) ⟨va, vc, rfl⟩ (own_bel ho12 (HA12.out _)) hg13.out ho13.out (by decide))
                            have P13 := hidX ((SA.out _).st.ps.keep ((Below.refl _ _).grown hg13.out (by simp; omega) (fun k hk => by have := hrow k hk; omega)))
                            have E13 := hidX (own_grown (SA.out _).st.ow hg13.out (SA.out _).acs.rty (by decide))
                            have T13 := hidX ((SA.out _).pts.grown hg13.out (SA.out _).acs.rty (by decide) (by decide))
                            have B13 := hidX (box_grown (SA.out _).bq hg13.out (SA.out _).acs.rty (by decide))
                            have R13 := hidX (box_grown (SA.out _).rq hg13.out (SA.out _).acs.rty (by decide))
                            have M13 := hidX ((SA.out _).mo.grown hg13.out hrow)
                            have X13 := hidX (show ExS w13 w.heap.size pb src a c l2' (.map (some mb)) cm rv lv s2 ea12 ec12 from ⟨P13.out, E13.out, hpb, M13.out.rest.size⟩)
                            have f4 := cell_of B13.out (j := 4) rfl
                            have z4 := froz_of B13.out 4
                            have s13 : w5.heap.size < w13.heap.size := lt_of_block' B13.out
                            refine tk 6 hHeld ?_
                            (try simp only [pA, pZ, pS])
                            refine wpAnyH_ready (rs := [7]) (by kernel_rfl) (by simp) ?_
                            refine AllReadyH.cons (o := ?o46) ?ho46 (fun K hK => ?step46) AllReadyH.nil
                            case ho46 => (simp only [List.getElem?_toArray, List.getElem?_cons_succ, List.getElem?_cons_zero]; rfl)
                            go_simp
                            refine hK.out _ _ ?hS47 (fun hHeld' => ?rest47)
                            case hS47 => ((try dsimp only); all_goals trivial)
                            clear hK K
                            (try dsimp only)
                            clear hHeld
                            have hHeld := hHeld'
                            clear hHeld'
                            refine wpAnyH_done (by kernel_rfl) ?_ _
                            refine NoPanic.normal ?_
                            clear hHeld
                            refine lift_setW B13.out ?_
                            intro w14 hq14 ht14
                            have S14 := hidX (show ActS w w14 pb w5.heap.size w.heap.size src a c (.map (some mb)) cm rv lv (mkS (ptW nm)) sl.num pa pc MP l2' s2 ea12 ec12 a13 c13 (MA ++ [(v, .slice va v.args.length vc)]) from ⟨M13.out.turn ht14 (by omega), X13.out.turned ht14 (by omega) B13.out (fun _ k hk => box_ne X13.out.ow B13.out hk), T13.out.turned ht14 B13.out (by decide) (by decide), N13.out.turned ht14 B13.out (by decide) (by decide), by simpa [ruL] using hq14, (ht14.block w.heap.size (by omega)).trans R13.out, hk2, h62⟩)
                            have HL14 : Hid (lenP w5.heap.size 4 w14 = MA.length + 1) := show _ = _ from by unfold lenP; rw [cell_of S14.out.bq (j := 4) rfl]; simp [sliceLen]
                            clear hq14 ht14 f4 z4
                            go_wp2_with fail
                            go_roundw
                            case rel => exact ⟨n, l2', s2, ea12, ec12, a13, c13, MA ++ [(v, .slice va v.args.length vc)], by simp; omega, S14.out, by simpa using PL2.out⟩
                            case measure =>
                              change 8 - lenP w5.heap.size 4 w14 < 8 - lenP w5.heap.size 4 wr
                              rw [HL14.out, HML.out]
                              omega
                          case step38 =>
                            go_simp
                            (go_at_call 72; refine HCM.out.mono ?_; rintro e w12 ⟨hm12, ⟨va, vc, rfl, ho12⟩, ea12, ec12, hs12, hr12⟩; unfold acL; have s12 := hm12.rest.size; simp at s12; have hq12 := (hm12.block w5.heap.size (by simp; omega) (by omega) (fun e => box_ne S11.out.st.ow S11.out.bq e rfl)).trans S11.out.bq; have g4 := cell_of hq12 (j := 4) rfl)
                            refine hK.out _ _ ?hS48 (fun hHeld' => ?rest48)
                            case hS48 => ((try dsimp only); all_goals trivial)
                            clear hK K
                            (try dsimp only)
                            clear hHeld
                            have hHeld := hHeld'
                            clear hHeld'
                            refine wpAnyH_ready (rs := [1, 4]) (by kernel_rfl) (by simp) ?_
                            refine AllReadyH.cons (o := ?o49) ?ho49 (fun K hK => ?step49) (AllReadyH.cons (o := ?o50) ?ho50 (fun K hK => ?step50) AllReadyH.nil)
                            case ho49 => (simp only [List.getElem?_toArray, List.getElem?_cons_succ, List.getElem?_cons_zero]; rfl)
                            case ho50 => (simp only [List.getElem?_toArray, List.getElem?_cons_succ, List.getElem?_cons_zero]; rfl)
                            case step49 =>
                              go_simp
                              refine hK.out _ _ ?hS51 (fun hHeld' => ?rest51)
                              case hS51 => ((try dsimp only); all_goals trivial)
                              clear hK K
                              (try simp only [pA, pZ, pS])
                              clear hHeld
                              have hHeld := hHeld'
                              clear hHeld'
                              refine wpAnyH_ready (rs := [4]) (by kernel_rfl) (by simp) ?_
                              refine AllReadyH.cons (o := ?o52) ?ho52 (fun K hK => ?step52) AllReadyH.nil
                              case ho52 => (simp only [List.getElem?_toArray, List.getElem?_cons_succ, List.getElem?_cons_zero]; rfl)
                              go_simp
                              have HA12 := hidX (fun o' => (Below.refl _ _).alloc (Nat.le_refl _) o' : ∀ o', Below w12.heap.size w12 (w12.alloc o')); have g4a : ∀ o', (w12.alloc o').cell? ⟨w5.heap.size, 4, none⟩ = some (.slice aa MA.length ac) := fun o' => cell_below (HA12.out o') g4
                              refine hK.out _ _ ?hS53 (fun hHeld' => ?rest53)
                              case hS53 => ((try dsimp only); all_goals trivial)
                              clear hK K
                              (try simp only [pA, pZ, pS])
                              clear hHeld
                              have hHeld := hHeld'
                              clear hHeld'
                              have S12 := hidX ((S11.out.below ((Below.refl _ _).drew)).mkx hm12 hs12 (by omega) (by omega) hk2 h62)
                              refine wpAnyH_ready (rs := [5]) (by kernel_rfl) (by simp) ?_
                              refine AllReadyH.cons (o := ?o54) ?ho54 (fun K hK => ?step54) AllReadyH.nil
                              case ho54 => (simp only [List.getElem?_toArray, List.getElem?_cons_succ, List.getElem?_cons_zero]; rfl)
                              (refine step_append_any (by rfl) (.tmp 53) (.tmp 56) 39 (by rfl) w.heap.size 53 _ 4 56 Tryz.underlying39 infoAF1 (by rfl) (by omega) _ MA.length _ (by rfl) (S12.out.below (HA12.out _)).acs.row (some ⟨_, 0, none⟩) 1 1 (by rfl) (acL v (.slice va v.args.length vc)) (by rfl) (fun e => by cases e) (news_new _ _ _ _ (by simp)) (acL_one _ _ _ _) (by unfold maxLen; omega) (by omega) (by have := S12.out.mo.rest.size; simp; omega) ?_; intro a13 c13 w13 ho13 hg13 hl13)
                              refine hK.out _ _ ?hS55 (fun hHeld' => ?rest55)
                              case hS55 => ((try dsimp only); all_goals trivial)
                              clear hK K
                              (try simp only [pA, pZ, pS])
                              clear hHeld
                              have hHeld := hHeld'
                              clear hHeld'
                              have hrow : ∀ k, (Value.slice aa MA.length ac).ownBlock = some k → w.heap.size ≤ k := fun k hk => (S12.out.acs.rlt k hk).1
                              have SA := hidX (fun o' => S12.out.below (HA12.out o'))
                              have N13 := hidX (NRow.more (S11.out.below ((Below.refl _ _).drew)).acs (SA.out _).acs ho12 (Nat.le_refl _) (by simp; omega) ⟨va, vc, rfl⟩ (own_bel ho12 (HA12.out _)) hg13.out ho13.out (by decide))
                              have P13 := hidX ((SA.out _).st.ps.keep ((Below.refl _ _).grown hg13.out (by simp; omega) (fun k hk => by have := hrow k hk; omega)))
                              have E13 := hidX (own_grown (SA.out _).st.ow hg13.out (SA.out _).acs.rty (by decide))
                              have T13 := hidX ((SA.out _).pts.grown hg13.out (SA.out _).acs.rty (by decide) (by decide))
                              have B13 := hidX (box_grown (SA.out _).bq hg13.out (SA.out _).acs.rty (by decide))
                              have R13 := hidX (box_grown (SA.out _).rq hg13.out (SA.out _).acs.rty (by decide))
                              have M13 := hidX ((SA.out _).mo.grown hg13.out hrow)
                              have X13 := hidX (show ExS w13 w.heap.size pb src a c l2' (.map (some mb)) cm rv lv s2 ea12 ec12 from ⟨P13.out, E13.out, hpb, M13.out.rest.size⟩)
                              have f4 := cell_of B13.out (j := 4) rfl
                              have z4 := froz_of B13.out 4
                              have s13 : w5.heap.size < w13.heap.size := lt_of_block' B13.out
                              refine tk 6 hHeld ?_
                              (try simp only [pA, pZ, pS])
                              refine wpAnyH_ready (rs := [7]) (by kernel_rfl) (by simp) ?_
                              refine AllReadyH.cons (o := ?o56) ?ho56 (fun K hK => ?step56) AllReadyH.nil
                              case ho56 => (simp only [List.getElem?_toArray, List.getElem?_cons_succ, List.getElem?_cons_zero]; rfl)
                              go_simp
                              refine hK.out _ _ ?hS57 (fun hHeld' => ?rest57)
                              case hS57 => ((try dsimp only); all_goals trivial)
                              clear hK K
                              (try dsimp only)
                              clear hHeld
                              have hHeld := hHeld'
                              clear hHeld'
                              refine wpAnyH_done (by kernel_rfl) ?_ _
                              refine NoPanic.normal ?_
                              clear hHeld
                              refine lift_setW B13.out ?_
                              intro w14 hq14 ht14
                              have S14 := hidX (show ActS w w14 pb w5.heap.size w.heap.size src a c (.map (some mb)) cm rv lv (mkS (ptW nm)) sl.num pa pc MP l2' s2 ea12 ec12 a13 c13 (MA ++ [(v, .slice va v.args.length vc)]) from ⟨M13.out.turn ht14 (by omega), X13.out.turned ht14 (by omega) B13.out (fun _ k hk => box_ne X13.out.ow B13.out hk), T13.out.turned ht14 B13.out (by decide) (by decide), N13.out.turned ht14 B13.out (by decide) (by decide), by simpa [ruL] using hq14, (ht14.block w.heap.size (by omega)).trans R13.out, hk2, h62⟩)
                              have HL14 : Hid (lenP w5.heap.size 4 w14 = MA.length + 1) := show _ = _ from by unfold lenP; rw [cell_of S14.out.bq (j := 4) rfl]; simp [sliceLen]
                              clear hq14 ht14 f4 z4
                              go_wp2_with fail
                              go_roundw
                              case rel => exact ⟨n, l2', s2, ea12, ec12, a13, c13, MA ++ [(v, .slice va v.args.length vc)], by simp; omega, S14.out, by simpa using PL2.out⟩
                              case measure =>
                                change 8 - lenP w5.heap.size 4 w14 < 8 - lenP w5.heap.size 4 wr
                                rw [HL14.out, HML.out]
                                omega
                            case step50 =>
                              go_simp
                              have HA12 := hidX (fun o' => (Below.refl _ _).alloc (Nat.le_refl _) o' : ∀ o', Below w12.heap.size w12 (w12.alloc o')); have g4a : ∀ o', (w12.alloc o').cell? ⟨w5.heap.size, 4, none⟩ = some (.slice aa MA.length ac) := fun o' => cell_below (HA12.out o') g4
                              refine hK.out _ _ ?hS58 (fun hHeld' => ?rest58)
                              case hS58 => ((try dsimp only); all_goals trivial)
                              clear hK K
                              (try simp only [pA, pZ, pS])
                              clear hHeld
                              have hHeld := hHeld'
                              clear hHeld'
                              refine wpAnyH_ready (rs := [1]) (by kernel_rfl) (by simp) ?_
                              refine AllReadyH.cons (o := ?o59) ?ho59 (fun K hK => ?step59) AllReadyH.nil
                              case ho59 => (simp only [List.getElem?_toArray, List.getElem?_cons_succ, List.getElem?_cons_zero]; rfl)
                              go_simp
                              refine hK.out _ _ ?hS60 (fun hHeld' => ?rest60)
                              case hS60 => ((try dsimp only); all_goals trivial)
                              clear hK K
                              (try simp only [pA, pZ, pS])
                              clear hHeld
                              have hHeld := hHeld'
                              clear hHeld'
                              have S12 := hidX ((S11.out.below ((Below.refl _ _).drew)).mkx hm12 hs12 (by omega) (by omega) hk2 h62)
                              refine wpAnyH_ready (rs := [5]) (by kernel_rfl) (by simp) ?_
                              refine AllReadyH.cons (o := ?o61) ?ho61 (fun K hK => ?step61) AllReadyH.nil
                              case ho61 => (simp only [List.getElem?_toArray, List.getElem?_cons_succ, List.getElem?_cons_zero]; rfl)
                              (refine step_append_any (by rfl) (.tmp 53) (.tmp 56) 39 (by rfl) w.heap.size 53 _ 4 56 Tryz.underlying39 infoAF1 (by rfl) (by omega) _ MA.length _ (by rfl) (S12.out.below (HA12.out _)).acs.row (some ⟨_, 0, none⟩) 1 1 (by rfl) (acL v (.slice va v.args.length vc)) (by rfl) (fun e => by cases e) (news_new _ _ _ _ (by simp)) (acL_one _ _ _ _) (by unfold maxLen; omega) (by omega) (by have := S12.out.mo.rest.size; simp; omega) ?_; intro a13 c13 w13 ho13 hg13 hl13)
                              refine hK.out _ _ ?hS62 (fun hHeld' => ?rest62)
                              case hS62 => ((try dsimp only); all_goals trivial)
                              clear hK K
                              (try simp only [pA, pZ, pS])
                              clear hHeld
                              have hHeld := hHeld'
                              clear hHeld'
                              have hrow : ∀ k, (Value.slice aa MA.length ac).ownBlock = some k → w.heap.size ≤ k := fun k hk => (S12.out.acs.rlt k hk).1
                              have SA := hidX (fun o' => S12.out.below (HA12.out o'))
                              have N13 := hidX (NRow.more (S11.out.below ((Below.refl _ _).drew)).acs (SA.out _).acs ho12 (Nat.le_refl _) (by simp; omega) ⟨va, vc, rfl⟩ (own_bel ho12 (HA12.out _)) hg13.out ho13.out (by decide))
                              have P13 := hidX ((SA.out _).st.ps.keep ((Below.refl _ _).grown hg13.out (by simp; omega) (fun k hk => by have := hrow k hk; omega)))
                              have E13 := hidX (own_grown (SA.out _).st.ow hg13.out (SA.out _).acs.rty (by decide))
                              have T13 := hidX ((SA.out _).pts.grown hg13.out (SA.out _).acs.rty (by decide) (by decide))
                              have B13 := hidX (box_grown (SA.out _).bq hg13.out (SA.out _).acs.rty (by decide))
                              have R13 := hidX (box_grown (SA.out _).rq hg13.out (SA.out _).acs.rty (by decide))
                              have M13 := hidX ((SA.out _).mo.grown hg13.out hrow)
                              have X13 := hidX (show ExS w13 w.heap.size pb src a c l2' (.map (some mb)) cm rv lv s2 ea12 ec12 from ⟨P13.out, E13.out, hpb, M13.out.rest.size⟩)
                              have f4 := cell_of B13.out (j := 4) rfl
                              have z4 := froz_of B13.out 4
                              have s13 : w5.heap.size < w13.heap.size := lt_of_block' B13.out
                              refine tk 6 hHeld ?_
                              (try simp only [pA, pZ, pS])
                              refine wpAnyH_ready (rs := [7]) (by kernel_rfl) (by simp) ?_
                              refine AllReadyH.cons (o := ?o63) ?ho63 (fun K hK => ?step63) AllReadyH.nil
                              case ho63 => (simp only [List.getElem?_toArray, List.getElem?_cons_succ, List.getElem?_cons_zero]; rfl)
                              go_simp
                              refine hK.out _ _ ?hS64 (fun hHeld' => ?rest64)
                              case hS64 => ((try dsimp only); all_goals trivial)
                              clear hK K
                              (try dsimp only)
                              clear hHeld
                              have hHeld := hHeld'
                              clear hHeld'
                              refine wpAnyH_done (by kernel_rfl) ?_ _
                              refine NoPanic.normal ?_
                              clear hHeld
                              refine lift_setW B13.out ?_
                              intro w14 hq14 ht14
                              have S14 := hidX (show ActS w w14 pb w5.heap.size w.heap.size src a c (.map (some mb)) cm rv lv (mkS (ptW nm)) sl.num pa pc MP l2' s2 ea12 ec12 a13 c13 (MA ++ [(v, .slice va v.args.length vc)]) from ⟨M13.out.turn ht14 (by omega), X13.out.turned ht14 (by omega) B13.out (fun _ k hk => box_ne X13.out.ow B13.out hk), T13.out.turned ht14 B13.out (by decide) (by decide), N13.out.turned ht14 B13.out (by decide) (by decide), by simpa [ruL] using hq14, (ht14.block w.heap.size (by omega)).trans R13.out, hk2, h62⟩)
                              have HL14 : Hid (lenP w5.heap.size 4 w14 = MA.length + 1) := show _ = _ from by unfold lenP; rw [cell_of S14.out.bq (j := 4) rfl]; simp [sliceLen]
                              clear hq14 ht14 f4 z4
                              go_wp2_with fail
                              go_roundw
                              case rel => exact ⟨n, l2', s2, ea12, ec12, a13, c13, MA ++ [(v, .slice va v.args.length vc)], by simp; omega, S14.out, by simpa using PL2.out⟩
                              case measure =>
                                change 8 - lenP w5.heap.size 4 w14 < 8 - lenP w5.heap.size 4 wr
                                rw [HL14.out, HML.out]
                                omega
              case rest =>
                obtain ⟨l6, s', ea', ec', aa, ac, MA, hst, hpm⟩ := hcut
                obtain ⟨w30, rfl⟩ : ∃ v, v = wc := ⟨wc, rfl⟩
                have ST := hidX hst
                have HR5 : Hid (pRule l = andP (takeW 41 l6) fun _ l7 => .ok (⟨mkS (ptW nm), sl.num, MP.map Prod.fst, s'.1, MA.map Prod.fst⟩, l7)) := show _ = _ from by rw [HR4.out, hpm]; rfl
                have HTK := hidX (take_any w30 pb src a c l6 _ 41 hst.st.ps)
                clear hst hpm S20 HR4
                cases hc : takeW 41 l6 with
                | error f =>
                  have HT : Hid (pRule l = .error f) := show _ = _ from by rw [HR5.out, hc]; rfl
                  rw [hc] at HTK
                  go_wp2_with (first | (go_at_call 62; refine HTK.out.mono ?_; rintro e w31 ⟨hm31, rfl⟩; unfold fltE) | fail)
                  exact ⟨rfl, RuPost.err HT.out (ST.out.mo.trans hm31)⟩
                | ok p =>
                  obtain ⟨y, l7⟩ := p
                  have HT : Hid (pRule l = .ok (⟨mkS (ptW nm), sl.num, MP.map Prod.fst, s'.1, MA.map Prod.fst⟩, l7)) := show _ = _ from by rw [HR5.out, hc]; rfl
                  rw [hc] at HTK
                  clear hc HR5
                  go_upto_region 15 with (first | (go_at_call 62; refine HTK.out.mono ?_; rintro e w31 ⟨hm31, hw31, hp31⟩; replace hw31 : e = .returned (pwA y) := hw31; subst hw31; unfold pwA) | fail)
                  have S31 := hidX (ST.out.mko hm31 hp31 (by omega) (by omega))
                  have c6 := S31.out.st.ps.cell (j := 4) rfl
                  have d3 := cell_of S31.out.bq (j := 3) rfl
                  have f3 := froz_of S31.out.bq 3
                  clear hm31 hp31 HTK ST
                  go_upto_region 16 with fail
                  refine lift_setW S31.out.bq ?_
                  intro w32 hq32 ht32
                  have OB31 : ∀ k, obE s' ea' ec' = some k → k ≠ w5.heap.size := fun k hk => box_ne S31.out.st.ow S31.out.bq hk
                  have hbq := (show w32.heap[w5.heap.size]? = some (.cells (ruL (mkS (ptW nm)) sl.num (.slice pa MP.length pc) (.slice ea' s'.1.length ec') (.slice aa MA.length ac)).toArray 41 (0, 0)) from by simpa [ruL] using hq32)
                  have hrq := (ht32.block w.heap.size (by omega)).trans S31.out.rq
                  have P32 := hidX (S31.out.st.turned ht32 (by omega) S31.out.bq (fun _ => OB31))
                  have N32 := hidX (S31.out.pts.turned ht32 S31.out.bq (by decide) (by decide))
                  have A32 := hidX (S31.out.acs.turned ht32 S31.out.bq (by decide) (by decide))
                  have M32 := hidX (S31.out.mo.turn ht32 (by omega))
                  have OR : ∀ k, obE s' ea' ec' = some k → k ≠ w.heap.size := fun k hk => box_ne P32.out.ow hrq hk
                  clear c6 d3 f3 hq32 ht32 OB31
                  go_wp2_with (first | (refine wpList_load_blk (by rfl) 41 (.tmp 4) (by rfl) w5.heap.size (ruL (mkS (ptW nm)) sl.num (.slice pa MP.length pc) (.slice ea' s'.1.length ec') (.slice aa MA.length ac)) (by rfl) 41 (0, 0) hbq _ Tryz.underlying41 rfl infoRuP ?_) | (refine wpList_store_blk (by rfl) 41 (.tmp 2) (.tmp 66) (by rfl) w.heap.size (ruL (mkS (ptW nm)) sl.num (.slice pa MP.length pc) (.slice ea' s'.1.length ec') (.slice aa MA.length ac)) (by rfl) (by rfl) _ 41 hrq (by rfl) infoRuP (ruL_one _ _ _ _ _ _ _ _ _ _ _) ?_; intro w33 hb33 ht33) | fail)
                  have hld := run_loadVar_mid (P := Tryz.prog) w33 w.heap.size 0 41 (ruL (mkS (ptW nm)) sl.num (.slice pa MP.length pc) (.slice ea' s'.1.length ec') (.slice aa MA.length ac)) _ (range_blk hb33.out) Tryz.underlying41 rfl infoRuP
                  (try go_frame)
                  refine bodyPost_ret (v := .agg (ruL (mkS (ptW nm)) sl.num (.slice pa MP.length pc) (.slice ea' s'.1.length ec') (.slice aa MA.length ac)).toArray) (by simp [results, Tryz.results40, asAddr, hld]) rfl ⟨M32.out.turn ht33.out (Nat.le_refl _), ?_⟩
                  rw [HT.out]
                  have P33 := P32.out.turned ht33.out (by omega) hrq (fun _ => OR)
                  exact ⟨⟨⟨mkS (ptW nm), sl.num, MP.map Prod.fst, s'.1, MA.map Prod.fst⟩, pa, pc, MP, ea', ec', aa, ac, MA⟩, rfl, rfl, ⟨N32.out.turned ht33.out hrq (by decide) (by decide), P33.ow, A32.out.turned ht33.out hrq (by decide) (by decide), rfl, rfl⟩, _, _, P33.ps⟩
    · have HT : Hid (pRule l = .error (3, x.pos)) := show _ = _ from by unfold pRule; rw [hr, andP_okX, if_neg hk]
      rw [decide_eq_false hk] at hbq
      replace hbq : ((mkS (ptW x)).toList == [114, 117, 108, 101]) = false := hbq
      clear hk hr
      go_wp2_with (first | (refine wpList_load_blk (by rfl) 146 (.tmp 3) (by rfl) w2.heap.size L (by rfl) 146 (0, 0) hq3 _ Tryz.underlying146 rfl hLl.1 ?_) | (go_at_call 70; refine (fault_L HLX 3 _).mono ?_; rintro e w4 ⟨rfl, hb4⟩) | fail)
      exact ⟨rfl, RuPost.err HT.out (M3.out.trans (MkO.of_below hb4))⟩
end Go.Proofs.YtgkoiojelckblaaGreatDoor

namespace Go.Proofs.YtgkoiojelckblaaGreatDoor
open Go.RowKit Go.Maps
attribute [local go_sem ↓] Go.wp_at_zero Go.wp_at_succ

theorem infoRF : (Tryz.prog.info? 41).map (fun i => (i.zero, i.size, i.bytes)) = some (some (.agg #[.string ⟨#[]⟩, .int .i64 0, .slice none 0 0, .slice none 0 0, .slice none 0 0]), 5, 96) := by kernel_rfl
/-- A block of a rule's. -/
def InX (x : RX) (g : Nat) : Prop := x.pv.ownBlock = some g ∨ (∃ y ∈ x.MP, y.2.ownBlock = some g) ∨ x.ev.ownBlock = some g ∨ x.av.ownBlock = some g ∨ ∃ y ∈ x.MA, y.2.ownBlock = some g
theorem ROwn.blk {w : World} {B : Nat} {x : RX} (h : ROwn w B x) {g : Nat} (hg : InX x g) : B ≤ g ∧ g < w.heap.size := by
  rcases hg with hg | ⟨y, hy, hg⟩ | hg | hg | ⟨y, hy, hg⟩
  · exact h.pts.rlt g hg
  · exact h.pts.vlt y hy g hg
  · exact h.exs.lt g hg
  · exact h.acs.rlt g hg
  · exact h.acs.vlt y hy g hg
theorem ROwn.typ {w : World} {B : Nat} {x : RX} (h : ROwn w B x) {g : Nat} (hg : InX x g) : ∃ cs t, w.heap[g]? = some (.cells cs t (0, 0)) ∧ t ≠ 41 := by
  rcases hg with hg | ⟨y, hy, hg⟩ | hg | hg | ⟨y, hy, hg⟩
  · obtain ⟨cs, e⟩ := h.pts.rty g hg; exact ⟨cs, _, e, by decide⟩
  · obtain ⟨cs, e⟩ := h.pts.vty y hy g hg; exact ⟨cs, _, e, by decide⟩
  · obtain ⟨cs, e⟩ := own_type h.exs hg; exact ⟨cs, _, e, by decide⟩
  · obtain ⟨cs, e⟩ := h.acs.rty g hg; exact ⟨cs, _, e, by decide⟩
  · obtain ⟨cs, e⟩ := h.acs.vty y hy g hg; exact ⟨cs, _, e, by decide⟩
theorem ROwn.keep {w w' : World} {B : Nat} {x : RX} (h : ROwn w B x) (hk : ∀ g, InX x g → w'.heap[g]? = w.heap[g]?) : ROwn w' B x :=
  ⟨h.pts.keep (fun g hg => hk g (.inl hg)) (fun y hy g hg => hk g (.inr (.inl ⟨y, hy, hg⟩))), owns_of_block h.exs (fun g hg => hk g (.inr (.inr (.inl hg)))), h.acs.keep (fun g hg => hk g (.inr (.inr (.inr (.inl hg))))) (fun y hy g hg => hk g (.inr (.inr (.inr (.inr ⟨y, hy, hg⟩))))), h.mp, h.ma⟩
theorem ROwn.base {w : World} {B B' : Nat} {x : RX} (h : ROwn w B x) (hb : B' ≤ B) : ROwn w B' x := ⟨h.pts.base hb, owns_base h.exs hb, h.acs.base hb, h.mp, h.ma⟩
theorem ROwn.below {w w' : World} {B : Nat} {x : RX} (h : ROwn w B x) (hb : Below w.heap.size w w') : ROwn w' B x := h.keep (fun g hg => hb.block g (h.blk hg).2)
theorem ROwn.mko {w w' : World} {B pb : Nat} {x : RX} (h : ROwn w B x) (hm : MkO (some pb) w w') (hp : pb < B) : ROwn w' B x := h.keep (fun g hg => hm.block g (h.blk hg).2 (fun e => by injection e with e; have := (h.blk hg).1; omega))
theorem ROwn.grown {w w' : World} {B : Nat} {x : RX} {row : Option Nat} (h : ROwn w B x) (hg : w.grownBy w' row) (ht : ∀ k, row = some k → ∃ cs, w.heap[k]? = some (.cells cs 41 (0, 0))) : ROwn w' B x :=
  h.keep (fun g hx => hg.block g (h.blk hx).2 (fun e => by
    obtain ⟨c1, t1, e1, n1⟩ := h.typ hx
    obtain ⟨c2, e2⟩ := ht g e.symm
    exact ty_ne e1 e2 n1))
/-- A row of rules that is owned, each with rows of its own. -/
structure RRow (w : World) (B : Nat) (a : Option Addr) (c : Nat) (M : List RX) : Prop where
  row : w.ownsRow B 41 5 (.slice a M.length c) M.length (M.flatMap RX.cells)
  all : ∀ x ∈ M, ROwn w B x
  pair : M.Pairwise fun x y => ∀ g, InX x g → ¬ InX y g
theorem RRow.nil (w : World) (B : Nat) : RRow w B none 0 [] := ⟨World.ownsRow_nil _ _ _ _, fun x hx => by simp at hx, List.Pairwise.nil⟩
theorem RRow.mko {w w' : World} {B pb : Nat} {a : Option Addr} {c : Nat} {M : List RX} (h : RRow w B a c M) (hm : MkO (some pb) w w') (hp : pb < B) : RRow w' B a c M := ⟨own_mko h.row hm hp, fun x hx => (h.all x hx).mko hm hp, h.pair⟩
theorem RRow.below {w w' : World} {B : Nat} {a : Option Addr} {c : Nat} {M : List RX} (h : RRow w B a c M) (hb : Below w.heap.size w w') : RRow w' B a c M := ⟨own_bel h.row hb, fun x hx => (h.all x hx).below hb, h.pair⟩
/-- A rule whose rows are newer stands apart. -/
theorem RRow.newer {w w' : World} {B C : Nat} {a : Option Addr} {c : Nat} {M : List RX} {v : RX} (h : RRow w B a c M) (hC : w.heap.size ≤ C) (hv : ROwn w' C v) : (M ++ [v]).Pairwise fun x y => ∀ g, InX x g → ¬ InX y g :=
  List.pairwise_append.2 ⟨h.pair, by simp, fun x hx y hy g hg hg' => by
    simp at hy
    subst hy
    have h3 := ((h.all x hx).blk hg).2
    have h4 := (hv.blk hg').1
    omega⟩
theorem RX.cells_one (x : RX) : ∀ v ∈ x.cells, v.oneCell' = true := ruL_one _ _ _ _ _ _ _ _ _ _ _
def lenR (pb : Nat) (w : World) : Nat := match w.cell? ⟨pb, 4, none⟩ with
  | some v => sliceLen v
  | none => 0
/-- What all rules leave. -/
def SrcPost (w : World) (pb : Nat) (src : Bs) (a : Option Addr) (c : Nat) (am cm lv : Value) (r : Px (List Ru)) (e : Ending) (w' : World) : Prop := MkO (some pb) w w' ∧ match r with
  | .error f => e = fltE f
  | .ok (vs, l) => e = .returned (.tuple #[]) ∧ ∃ ra rc M ev bv, M.map RX.ru = vs ∧ RRow w' w.heap.size ra rc M ∧ PSt w' pb src a c l (RL am cm (.slice ra M.length rc) lv ev bv)
theorem SrcPost.err {w w' : World} {pb : Nat} {src : Bs} {a : Option Addr} {c : Nat} {am cm lv : Value} {r : Px (List Ru)} {f : Flt} (hr : r = .error f) (hm : MkO (some pb) w w') : SrcPost w pb src a c am cm lv r (fltE f) w' := by
  subst hr
  exact ⟨hm, rfl⟩
set_option maxRecDepth 100000 in
set_option maxHeartbeats 6400000 in
theorem source_any (w : World) (pb mb : Nat) (src : Bs) (a : Option Addr) (c : Nat) (l : List Wd) (cm lv ev0 bv0 : Value) (h : PSt w pb src a c l (RL (.map (some mb)) cm (.slice none 0 0) lv ev0 bv0)) (hM : FnMap w pb mb actF) (hne : pb < mb) : Calls Tryz.prog 16 #[.pointer (some ⟨pb, 0, none⟩)] w (SrcPost w pb src a c (.map (some mb)) cm lv (pRules l)) := by
  have HP := hidX h
  have HM := hidX hM
  have hpb := h.lt
  clear h hM
  go_enter Tryz.func16, Tryz.ntmps16
  go_wp2_with fail
  go_loopw [2] (fun _ wr => ∃ (ra : Option Addr) (rc n : Nat) (M : List RX) (l' : List Wd) (ev bv : Value), M.length + n = 16 ∧ RRow wr w.heap.size ra rc M ∧ PSt wr pb src a c l' (RL (.map (some mb)) cm (.slice ra M.length rc) lv ev bv) ∧ MkO (some pb) w wr ∧ pRules l = preL (M.map RX.ru) (pMany 0 pRule n l')) (fun _ wr => 16 - lenR pb wr)
  case atStart => exact ⟨none, 0, 16, [], l, ev0, bv0, rfl, RRow.nil _ _, HP.out, MkO.refl _ _, by unfold pRules preL; cases pMany 0 pRule 16 l <;> rfl⟩
  case round =>
    obtain ⟨la, lc, n, M, l', ev, bv, hMn, hco, hps, hmk, hpl⟩ := hrel
    have OW := hidX hco
    have PS := hidX hps
    have MK := hidX hmk
    have PL := hidX hpl
    have HAH := hidX (ahead_any wr pb src a c l' _ 0 hps)
    have c5 : wr.cell? ⟨pb, 4, none⟩ = some (.slice la M.length lc) := hps.cell (j := 2) rfl
    have HML : Hid (lenR pb wr = M.length) := show _ = _ from by unfold lenR; rw [c5]; rfl
    clear hco hps hmk hpl
    cases hr : nextW l' with
    | error f =>
      have HT : Hid (pRules l = .error f) := show _ = _ from by rw [PL.out, pMany_err hr]; rfl
      rw [hr] at HAH
      go_wp2_with (first | (go_at_call 38; refine HAH.out.mono ?_; rintro e w2 ⟨hb2, rfl⟩; unfold fltE) | fail)
      exact ⟨rfl, SrcPost.err HT.out (MK.out.trans (MkO.of_below hb2))⟩
    | ok p =>
      obtain ⟨x, r⟩ := p
      rw [hr] at HAH
      by_cases hx : pkW x = 0
      · have HT : Hid (pRules l = .ok (M.map RX.ru, l')) := show _ = _ from by rw [PL.out, pMany_end hr hx]; simp [preL]
        replace HAH : Hid (Calls Tryz.prog 38 #[.pointer (some ⟨pb, 0, none⟩), .int .i32 0] wr fun e w' => Below wr.heap.size wr w' ∧ e = .returned (.bool true)) := by
          rw [← decide_eq_true hx]
          exact HAH
        clear hx
        go_wp2_with (first | (go_at_call 38; refine HAH.out.mono ?_; rintro e w2 ⟨hb2, rfl⟩) | fail)
        refine bodyPost_end (results_none rfl _ _ _) rfl ⟨MK.out.trans (MkO.of_below hb2), ?_⟩
        rw [HT.out]
        exact ⟨rfl, la, lc, M, ev, bv, rfl, OW.out.mko (MkO.of_below hb2) hpb, PS.out.below hb2⟩
      · replace HAH : Hid (Calls Tryz.prog 38 #[.pointer (some ⟨pb, 0, none⟩), .int .i32 0] wr fun e w' => Below wr.heap.size wr w' ∧ e = .returned (.bool false)) := by
          rw [← decide_eq_false hx]
          exact HAH
        have HOP := hidX (fun u (hu : Below wr.heap.size wr u) => open_any u pb src a c l' _ (M.length : Int) 16 (PS.out.below hu))
        have hnM : (M.length : Int) = ((16 - n : Nat) : Int) := by omega
        cases ho : openW (M.length : Int) 16 l' with
        | error f =>
          have HT : Hid (pRules l = .error f) := show _ = _ from by rw [PL.out, pMany_open (n := n) (m := 16) hr hx (by omega) (by rw [← hnM]; exact ho)]; rfl
          rw [ho] at HOP
          clear hx hnM ho
          go_upto_region 1 with (first | (go_at_call 38; refine HAH.out.mono ?_; rintro e w2 ⟨hb2, rfl⟩) | fail)
          have d5 := cell_below hb2 c5
          go_wp2_with (first | (go_at_call 39; refine (HOP.out _ hb2).mono ?_; rintro e w3 ⟨hm3, rfl⟩; unfold fltE) | fail)
          exact ⟨rfl, SrcPost.err HT.out ((MK.out.trans (MkO.of_below hb2)).trans hm3)⟩
        | ok p =>
          obtain ⟨y, l1⟩ := p
          obtain ⟨n, rfl, htk⟩ := pMany_more (n := n) (m := 16) hr (by omega) (by rw [← hnM]; exact ho)
          rw [ho] at HOP
          clear hnM ho
          have HCM := hidX (fun u (hu : PSt u pb src a c l1 (RL (.map (some mb)) cm (.slice la M.length lc) lv ev bv)) (hm : MkO (some pb) w u) => prule_any u pb mb src a c l1 _ _ _ _ _ hu (HM.out.mko hm (Nat.ne_of_lt hne)) hne)
          go_upto_region 1 with (first | (go_at_call 38; refine HAH.out.mono ?_; rintro e w2 ⟨hb2, rfl⟩) | fail)
          have d5 := cell_below hb2 c5
          go_upto_region 2 with (first | (go_at_call 39; refine (HOP.out _ hb2).mono ?_; rintro e w3 ⟨hm3, rfl, hp3⟩) | fail)
          have M3 := hidX ((MK.out.trans (MkO.of_below hb2)).trans hm3)
          have O3 := hidX ((OW.out.mko (MkO.of_below hb2) hpb).mko hm3 hpb)
          have P3 := hidX hp3
          have e5 : w3.cell? ⟨pb, 4, none⟩ = some (.slice la M.length lc) := hp3.cell (j := 2) rfl
          clear hm3 hp3 hb2 d5 c5 HOP HAH
          cases hc : pRule l1 with
          | error f =>
            have HT : Hid (pRules l = .error f) := show _ = _ from by rw [PL.out, pMany_bad hr hx htk hc]; rfl
            rw [hc] at HCM
            clear hx
            refine wp_region_pa (fun ch u => SrcPost w pb src a c (.map (some mb)) cm lv (pRules l) (.panicked ch) u) (fun _ _ _ h1 h2 => ⟨h1, h2⟩) ?_
            refine wp_region_held_drew (S := (fun _ => True)) (by kernel_rfl) ?_ (fun hHeld => ?_)
            · trivial
            refine tkP 0 hHeld ?_
            (try simp only [pA, pZ, pS])
            refine tkP 1 hHeld ?_
            (try simp only [pA, pZ, pS])
            refine tkP 2 hHeld ?_
            (try simp only [pA, pZ, pS])
            refine tkP 3 hHeld ?_
            (try simp only [pA, pZ, pS])
            refine tkP 5 hHeld ?_
            (try simp only [pA, pZ, pS])
            refine wpAnyH_ready (rs := [4, 6]) (by kernel_rfl) (by simp) ?_
            refine AllReadyH.cons (o := ?o1) ?ho1 (fun K hK => ?step1) (AllReadyH.cons (o := ?o2) ?ho2 (fun K hK => ?step2) AllReadyH.nil)
            case ho1 => (simp only [List.getElem?_toArray, List.getElem?_cons_succ, List.getElem?_cons_zero]; rfl)
            case ho2 => (simp only [List.getElem?_toArray, List.getElem?_cons_succ, List.getElem?_cons_zero]; rfl)
            case step1 =>
              go_simp
              refine hK.out _ _ ?hS3 (fun hHeld' => ?rest3)
              case hS3 => ((try dsimp only); all_goals trivial)
              clear hK K
              (try simp only [pA, pZ, pS])
              clear hHeld
              have hHeld := hHeld'
              clear hHeld'
              refine wpAnyH_ready (rs := [6]) (by kernel_rfl) (by simp) ?_
              refine AllReadyH.cons (o := ?o4) ?ho4 (fun K hK => ?step4) AllReadyH.nil
              case ho4 => (simp only [List.getElem?_toArray, List.getElem?_cons_succ, List.getElem?_cons_zero]; rfl)
              go_simp
              (go_at_call 40; refine (HCM.out _ (P3.out.below ((Below.refl _ _).drew)) M3.out.drew).mono ?_; rintro e w4 ⟨hm4, rfl⟩; unfold fltE)
              go_wp2_with fail
              exact ⟨rfl, SrcPost.err HT.out (M3.out.drew.trans hm4)⟩
            case step2 =>
              go_simp
              (go_at_call 40; refine (HCM.out _ (P3.out.below ((Below.refl _ _).drew)) M3.out.drew).mono ?_; rintro e w4 ⟨hm4, rfl⟩; unfold fltE)
              go_wp2_with fail
              exact ⟨rfl, SrcPost.err HT.out (M3.out.drew.trans hm4)⟩
          | ok q =>
            obtain ⟨v, l2⟩ := q
            have PL2 := hidX (PL.out.trans (pMany_step (M := M.map RX.ru) hr hx htk hc))
            rw [hc] at HCM
            clear hx
            refine wp_region_noPanic ?_
            refine wp_region_held_drew (S := (fun _ => True)) (by kernel_rfl) ?_ (fun hHeld => ?_)
            · (try dsimp only)
              all_goals trivial
            refine tk 0 hHeld ?_
            (try simp only [pA, pZ, pS])
            refine tk 1 hHeld ?_
            (try simp only [pA, pZ, pS])
            refine tk 2 hHeld ?_
            (try simp only [pA, pZ, pS])
            refine tk 3 hHeld ?_
            (try simp only [pA, pZ, pS])
            refine tk 5 hHeld ?_
            (try simp only [pA, pZ, pS])
            refine wpAnyH_ready (rs := [4, 6]) (by kernel_rfl) (by simp) ?_
            refine AllReadyH.cons (o := ?o5) ?ho5 (fun K hK => ?step5) (AllReadyH.cons (o := ?o6) ?ho6 (fun K hK => ?step6) AllReadyH.nil)
            case ho5 => (simp only [List.getElem?_toArray, List.getElem?_cons_succ, List.getElem?_cons_zero]; rfl)
            case ho6 => (simp only [List.getElem?_toArray, List.getElem?_cons_succ, List.getElem?_cons_zero]; rfl)
            case step5 =>
              go_simp
              refine hK.out _ _ ?hS7 (fun hHeld' => ?rest7)
              case hS7 => ((try dsimp only); all_goals trivial)
              clear hK K
              (try simp only [pA, pZ, pS])
              clear hHeld
              have hHeld := hHeld'
              clear hHeld'
              refine wpAnyH_ready (rs := [6]) (by kernel_rfl) (by simp) ?_
              refine AllReadyH.cons (o := ?o8) ?ho8 (fun K hK => ?step8) AllReadyH.nil
              case ho8 => (simp only [List.getElem?_toArray, List.getElem?_cons_succ, List.getElem?_cons_zero]; rfl)
              go_simp
              (go_at_call 40; refine (HCM.out _ (P3.out.below ((Below.refl _ _).drew)) M3.out.drew).mono ?_; rintro e w4 ⟨hm4, xr, hru, rfl, ho4, ev4, bv4, hp4⟩; replace hru := hidX hru; have e54 : w4.cell? ⟨pb, 4, none⟩ = some (.slice la M.length lc) := hp4.cell (j := 2) rfl)
              refine hK.out _ _ ?hS9 (fun hHeld' => ?rest9)
              case hS9 => ((try dsimp only); all_goals trivial)
              clear hK K
              (try simp only [pA, pZ, pS])
              clear hHeld
              have hHeld := hHeld'
              clear hHeld'
              refine wpAnyH_ready (rs := [7]) (by kernel_rfl) (by simp) ?_
              refine AllReadyH.cons (o := ?o10) ?ho10 (fun K hK => ?step10) AllReadyH.nil
              case ho10 => (simp only [List.getElem?_toArray, List.getElem?_cons_succ, List.getElem?_cons_zero]; rfl)
              go_simp
              have HA4 := hidX (fun o' => (Below.refl _ _).alloc (Nat.le_refl _) o' : ∀ o', Below w4.heap.size w4 (w4.alloc o')); have e54a : ∀ o', (w4.alloc o').cell? ⟨pb, 4, none⟩ = some (.slice la M.length lc) := fun o' => cell_below (HA4.out o') e54
              refine hK.out _ _ ?hS11 (fun hHeld' => ?rest11)
              case hS11 => ((try dsimp only); all_goals trivial)
              clear hK K
              (try simp only [pA, pZ, pS])
              clear hHeld
              have hHeld := hHeld'
              clear hHeld'
              have M4 := hidX (M3.out.drew.trans hm4)
              have hs4 := M4.out.rest.size
              have OA := hidX (fun o' => (((O3.out.mko (MkO.of_below ((Below.refl _ _).drew)) hpb).mko hm4 hpb).mko (MkO.of_below (HA4.out o')) hpb : RRow (w4.alloc o') w.heap.size la lc M))
              have NX := hidX (ho4.base (show w.heap.size ≤ _ by have := M3.out.rest.size; simpa using this))
              refine wpAnyH_ready (rs := [8]) (by kernel_rfl) (by simp) ?_
              refine AllReadyH.cons (o := ?o12) ?ho12 (fun K hK => ?step12) AllReadyH.nil
              case ho12 => (simp only [List.getElem?_toArray, List.getElem?_cons_succ, List.getElem?_cons_zero]; rfl)
              (refine step_append_any (by rfl) (.tmp 16) (.tmp 19) 24 (by rfl) w.heap.size 41 _ 5 96 Tryz.underlying24 infoRF (by rfl) (by omega) _ M.length _ (by rfl) (OA.out _).row (some ⟨_, 0, none⟩) 1 1 (by rfl) xr.cells (by rfl) (fun e => by cases e) (news_new _ _ _ _ (by simp)) xr.cells_one (by unfold maxLen; omega) (by omega) (by simp; omega) ?_; intro a8 c8 w8 ho8 hg8 hl8)
              refine hK.out _ _ ?hS13 (fun hHeld' => ?rest13)
              case hS13 => ((try dsimp only); all_goals trivial)
              clear hK K
              (try simp only [pA, pZ, pS])
              clear hHeld
              have hHeld := hHeld'
              clear hHeld'
              have hrow : ∀ k, (Value.slice la M.length lc).ownBlock = some k → w.heap.size ≤ k := fun k hk => (O3.out.row.lt k hk).1
              have TY := hidX (fun o' g hg => own_type (OA.out o').row (k := g) hg)
              have M8 := hidX ((M4.out.trans (MkO.of_below (HA4.out _))).grown hg8.out hrow)
              have P8 := hidX ((hp4.below (HA4.out _)).keep ((Below.refl _ _).grown hg8.out (by simp; omega) (fun k hk => by have := hrow k hk; omega)))
              have C8 := hidX (show RRow w8 w.heap.size a8 c8 (M ++ [xr]) from ⟨by simpa using ho8.out, fun x hx => by
                rcases List.mem_append.1 hx with hx | hx
                · exact ((OA.out _).all x hx).grown hg8.out (TY.out _)
                · simp at hx
                  subst hx
                  exact (NX.out.mko (MkO.of_below (HA4.out _)) hpb).grown hg8.out (TY.out _), O3.out.newer (Nat.le_refl _) ho4⟩)
              have f5 : w8.cell? ⟨pb, 4, none⟩ = some (.slice la M.length lc) := P8.out.cell (j := 2) rfl
              have g5 : w8.frozen? ⟨pb, 4, none⟩ = false := by
                obtain ⟨k', hs'⟩ := P8.out.sc
                simp [World.frozen?, hs'.blk]
              refine tk 9 hHeld ?_
              (try simp only [pA, pZ, pS])
              refine tk 10 hHeld ?_
              (try simp only [pA, pZ, pS])
              refine wpAnyH_ready (rs := [11]) (by kernel_rfl) (by simp) ?_
              refine AllReadyH.cons (o := ?o14) ?ho14 (fun K hK => ?step14) AllReadyH.nil
              case ho14 => (simp only [List.getElem?_toArray, List.getElem?_cons_succ, List.getElem?_cons_zero]; rfl)
              go_simp
              refine hK.out _ _ ?hS15 (fun hHeld' => ?rest15)
              case hS15 => ((try dsimp only); all_goals trivial)
              clear hK K
              (try dsimp only)
              clear hHeld
              have hHeld := hHeld'
              clear hHeld'
              refine wpAnyH_done (by kernel_rfl) ?_ _
              refine NoPanic.normal ?_
              have P9 := hidX (P8.out.cellSet (j := 2) (v := .slice a8 (M.length + 1) c8) rfl)
              have M9 := hidX (MkO.set (w := w8) (g := pb) (o := 4) (.slice a8 (M.length + 1) c8))
              have C9 := hidX (C8.out.mko M9.out hpb)
              clear hHeld
              go_wp2_with fail
              go_roundw
              case rel => exact ⟨a8, c8, n, M ++ [xr], l2, ev4, bv4, by simp; omega, C9.out, by simpa [RL] using P9.out, M8.out.trans M9.out, by simpa [hru.out] using PL2.out⟩
              case measure =>
                have hL9 : lenR pb (w8.setCell ⟨pb, 4, none⟩ (.slice a8 (M.length + 1) c8)) = M.length + 1 := by
                  unfold lenR
                  rw [P9.out.cell (j := 2) rfl]
                  rfl
                change 16 - lenR pb (w8.setCell ⟨pb, 4, none⟩ (.slice a8 (M.length + 1) c8)) < 16 - lenR pb wr
                rw [hL9, HML.out]
                omega
            case step6 =>
              go_simp
              (go_at_call 40; refine (HCM.out _ (P3.out.below ((Below.refl _ _).drew)) M3.out.drew).mono ?_; rintro e w4 ⟨hm4, xr, hru, rfl, ho4, ev4, bv4, hp4⟩; replace hru := hidX hru; have e54 : w4.cell? ⟨pb, 4, none⟩ = some (.slice la M.length lc) := hp4.cell (j := 2) rfl)
              refine hK.out _ _ ?hS16 (fun hHeld' => ?rest16)
              case hS16 => ((try dsimp only); all_goals trivial)
              clear hK K
              (try simp only [pA, pZ, pS])
              clear hHeld
              have hHeld := hHeld'
              clear hHeld'
              refine wpAnyH_ready (rs := [4, 7]) (by kernel_rfl) (by simp) ?_
              refine AllReadyH.cons (o := ?o17) ?ho17 (fun K hK => ?step17) (AllReadyH.cons (o := ?o18) ?ho18 (fun K hK => ?step18) AllReadyH.nil)
              case ho17 => (simp only [List.getElem?_toArray, List.getElem?_cons_succ, List.getElem?_cons_zero]; rfl)
              case ho18 => (simp only [List.getElem?_toArray, List.getElem?_cons_succ, List.getElem?_cons_zero]; rfl)
              case step17 =>
                go_simp
                refine hK.out _ _ ?hS19 (fun hHeld' => ?rest19)
                case hS19 => ((try dsimp only); all_goals trivial)
                clear hK K
                (try simp only [pA, pZ, pS])
                clear hHeld
                have hHeld := hHeld'
                clear hHeld'
                refine wpAnyH_ready (rs := [7]) (by kernel_rfl) (by simp) ?_
                refine AllReadyH.cons (o := ?o20) ?ho20 (fun K hK => ?step20) AllReadyH.nil
                case ho20 => (simp only [List.getElem?_toArray, List.getElem?_cons_succ, List.getElem?_cons_zero]; rfl)
                go_simp
                have HA4 := hidX (fun o' => (Below.refl _ _).alloc (Nat.le_refl _) o' : ∀ o', Below w4.heap.size w4 (w4.alloc o')); have e54a : ∀ o', (w4.alloc o').cell? ⟨pb, 4, none⟩ = some (.slice la M.length lc) := fun o' => cell_below (HA4.out o') e54
                refine hK.out _ _ ?hS21 (fun hHeld' => ?rest21)
                case hS21 => ((try dsimp only); all_goals trivial)
                clear hK K
                (try simp only [pA, pZ, pS])
                clear hHeld
                have hHeld := hHeld'
                clear hHeld'
                have M4 := hidX (M3.out.drew.trans hm4)
                have hs4 := M4.out.rest.size
                have OA := hidX (fun o' => (((O3.out.mko (MkO.of_below ((Below.refl _ _).drew)) hpb).mko hm4 hpb).mko (MkO.of_below (HA4.out o')) hpb : RRow (w4.alloc o') w.heap.size la lc M))
                have NX := hidX (ho4.base (show w.heap.size ≤ _ by have := M3.out.rest.size; simpa using this))
                refine wpAnyH_ready (rs := [8]) (by kernel_rfl) (by simp) ?_
                refine AllReadyH.cons (o := ?o22) ?ho22 (fun K hK => ?step22) AllReadyH.nil
                case ho22 => (simp only [List.getElem?_toArray, List.getElem?_cons_succ, List.getElem?_cons_zero]; rfl)
                (refine step_append_any (by rfl) (.tmp 16) (.tmp 19) 24 (by rfl) w.heap.size 41 _ 5 96 Tryz.underlying24 infoRF (by rfl) (by omega) _ M.length _ (by rfl) (OA.out _).row (some ⟨_, 0, none⟩) 1 1 (by rfl) xr.cells (by rfl) (fun e => by cases e) (news_new _ _ _ _ (by simp)) xr.cells_one (by unfold maxLen; omega) (by omega) (by simp; omega) ?_; intro a8 c8 w8 ho8 hg8 hl8)
                refine hK.out _ _ ?hS23 (fun hHeld' => ?rest23)
                case hS23 => ((try dsimp only); all_goals trivial)
                clear hK K
                (try simp only [pA, pZ, pS])
                clear hHeld
                have hHeld := hHeld'
                clear hHeld'
                have hrow : ∀ k, (Value.slice la M.length lc).ownBlock = some k → w.heap.size ≤ k := fun k hk => (O3.out.row.lt k hk).1
                have TY := hidX (fun o' g hg => own_type (OA.out o').row (k := g) hg)
                have M8 := hidX ((M4.out.trans (MkO.of_below (HA4.out _))).grown hg8.out hrow)
                have P8 := hidX ((hp4.below (HA4.out _)).keep ((Below.refl _ _).grown hg8.out (by simp; omega) (fun k hk => by have := hrow k hk; omega)))
                have C8 := hidX (show RRow w8 w.heap.size a8 c8 (M ++ [xr]) from ⟨by simpa using ho8.out, fun x hx => by
                  rcases List.mem_append.1 hx with hx | hx
                  · exact ((OA.out _).all x hx).grown hg8.out (TY.out _)
                  · simp at hx
                    subst hx
                    exact (NX.out.mko (MkO.of_below (HA4.out _)) hpb).grown hg8.out (TY.out _), O3.out.newer (Nat.le_refl _) ho4⟩)
                have f5 : w8.cell? ⟨pb, 4, none⟩ = some (.slice la M.length lc) := P8.out.cell (j := 2) rfl
                have g5 : w8.frozen? ⟨pb, 4, none⟩ = false := by
                  obtain ⟨k', hs'⟩ := P8.out.sc
                  simp [World.frozen?, hs'.blk]
                refine tk 9 hHeld ?_
                (try simp only [pA, pZ, pS])
                refine tk 10 hHeld ?_
                (try simp only [pA, pZ, pS])
                refine wpAnyH_ready (rs := [11]) (by kernel_rfl) (by simp) ?_
                refine AllReadyH.cons (o := ?o24) ?ho24 (fun K hK => ?step24) AllReadyH.nil
                case ho24 => (simp only [List.getElem?_toArray, List.getElem?_cons_succ, List.getElem?_cons_zero]; rfl)
                go_simp
                refine hK.out _ _ ?hS25 (fun hHeld' => ?rest25)
                case hS25 => ((try dsimp only); all_goals trivial)
                clear hK K
                (try dsimp only)
                clear hHeld
                have hHeld := hHeld'
                clear hHeld'
                refine wpAnyH_done (by kernel_rfl) ?_ _
                refine NoPanic.normal ?_
                have P9 := hidX (P8.out.cellSet (j := 2) (v := .slice a8 (M.length + 1) c8) rfl)
                have M9 := hidX (MkO.set (w := w8) (g := pb) (o := 4) (.slice a8 (M.length + 1) c8))
                have C9 := hidX (C8.out.mko M9.out hpb)
                clear hHeld
                go_wp2_with fail
                go_roundw
                case rel => exact ⟨a8, c8, n, M ++ [xr], l2, ev4, bv4, by simp; omega, C9.out, by simpa [RL] using P9.out, M8.out.trans M9.out, by simpa [hru.out] using PL2.out⟩
                case measure =>
                  have hL9 : lenR pb (w8.setCell ⟨pb, 4, none⟩ (.slice a8 (M.length + 1) c8)) = M.length + 1 := by
                    unfold lenR
                    rw [P9.out.cell (j := 2) rfl]
                    rfl
                  change 16 - lenR pb (w8.setCell ⟨pb, 4, none⟩ (.slice a8 (M.length + 1) c8)) < 16 - lenR pb wr
                  rw [hL9, HML.out]
                  omega
              case step18 =>
                go_simp
                have HA4 := hidX (fun o' => (Below.refl _ _).alloc (Nat.le_refl _) o' : ∀ o', Below w4.heap.size w4 (w4.alloc o')); have e54a : ∀ o', (w4.alloc o').cell? ⟨pb, 4, none⟩ = some (.slice la M.length lc) := fun o' => cell_below (HA4.out o') e54
                refine hK.out _ _ ?hS26 (fun hHeld' => ?rest26)
                case hS26 => ((try dsimp only); all_goals trivial)
                clear hK K
                (try simp only [pA, pZ, pS])
                clear hHeld
                have hHeld := hHeld'
                clear hHeld'
                refine wpAnyH_ready (rs := [4]) (by kernel_rfl) (by simp) ?_
                refine AllReadyH.cons (o := ?o27) ?ho27 (fun K hK => ?step27) AllReadyH.nil
                case ho27 => (simp only [List.getElem?_toArray, List.getElem?_cons_succ, List.getElem?_cons_zero]; rfl)
                go_simp
                refine hK.out _ _ ?hS28 (fun hHeld' => ?rest28)
                case hS28 => ((try dsimp only); all_goals trivial)
                clear hK K
                (try simp only [pA, pZ, pS])
                clear hHeld
                have hHeld := hHeld'
                clear hHeld'
                have M4 := hidX (M3.out.drew.trans hm4)
                have hs4 := M4.out.rest.size
                have OA := hidX (fun o' => (((O3.out.mko (MkO.of_below ((Below.refl _ _).drew)) hpb).mko hm4 hpb).mko (MkO.of_below (HA4.out o')) hpb : RRow (w4.alloc o') w.heap.size la lc M))
                have NX := hidX (ho4.base (show w.heap.size ≤ _ by have := M3.out.rest.size; simpa using this))
                refine wpAnyH_ready (rs := [8]) (by kernel_rfl) (by simp) ?_
                refine AllReadyH.cons (o := ?o29) ?ho29 (fun K hK => ?step29) AllReadyH.nil
                case ho29 => (simp only [List.getElem?_toArray, List.getElem?_cons_succ, List.getElem?_cons_zero]; rfl)
                (refine step_append_any (by rfl) (.tmp 16) (.tmp 19) 24 (by rfl) w.heap.size 41 _ 5 96 Tryz.underlying24 infoRF (by rfl) (by omega) _ M.length _ (by rfl) (OA.out _).row (some ⟨_, 0, none⟩) 1 1 (by rfl) xr.cells (by rfl) (fun e => by cases e) (news_new _ _ _ _ (by simp)) xr.cells_one (by unfold maxLen; omega) (by omega) (by simp; omega) ?_; intro a8 c8 w8 ho8 hg8 hl8)
                refine hK.out _ _ ?hS30 (fun hHeld' => ?rest30)
                case hS30 => ((try dsimp only); all_goals trivial)
                clear hK K
                (try simp only [pA, pZ, pS])
                clear hHeld
                have hHeld := hHeld'
                clear hHeld'
                have hrow : ∀ k, (Value.slice la M.length lc).ownBlock = some k → w.heap.size ≤ k := fun k hk => (O3.out.row.lt k hk).1
                have TY := hidX (fun o' g hg => own_type (OA.out o').row (k := g) hg)
                have M8 := hidX ((M4.out.trans (MkO.of_below (HA4.out _))).grown hg8.out hrow)
                have P8 := hidX ((hp4.below (HA4.out _)).keep ((Below.refl _ _).grown hg8.out (by simp; omega) (fun k hk => by have := hrow k hk; omega)))
                have C8 := hidX (show RRow w8 w.heap.size a8 c8 (M ++ [xr]) from ⟨by simpa using ho8.out, fun x hx => by
                  rcases List.mem_append.1 hx with hx | hx
                  · exact ((OA.out _).all x hx).grown hg8.out (TY.out _)
                  · simp at hx
                    subst hx
                    exact (NX.out.mko (MkO.of_below (HA4.out _)) hpb).grown hg8.out (TY.out _), O3.out.newer (Nat.le_refl _) ho4⟩)
                have f5 : w8.cell? ⟨pb, 4, none⟩ = some (.slice la M.length lc) := P8.out.cell (j := 2) rfl
                have g5 : w8.frozen? ⟨pb, 4, none⟩ = false := by
                  obtain ⟨k', hs'⟩ := P8.out.sc
                  simp [World.frozen?, hs'.blk]
                refine tk 9 hHeld ?_
                (try simp only [pA, pZ, pS])
                refine tk 10 hHeld ?_
                (try simp only [pA, pZ, pS])
                refine wpAnyH_ready (rs := [11]) (by kernel_rfl) (by simp) ?_
                refine AllReadyH.cons (o := ?o31) ?ho31 (fun K hK => ?step31) AllReadyH.nil
                case ho31 => (simp only [List.getElem?_toArray, List.getElem?_cons_succ, List.getElem?_cons_zero]; rfl)
                go_simp
                refine hK.out _ _ ?hS32 (fun hHeld' => ?rest32)
                case hS32 => ((try dsimp only); all_goals trivial)
                clear hK K
                (try dsimp only)
                clear hHeld
                have hHeld := hHeld'
                clear hHeld'
                refine wpAnyH_done (by kernel_rfl) ?_ _
                refine NoPanic.normal ?_
                have P9 := hidX (P8.out.cellSet (j := 2) (v := .slice a8 (M.length + 1) c8) rfl)
                have M9 := hidX (MkO.set (w := w8) (g := pb) (o := 4) (.slice a8 (M.length + 1) c8))
                have C9 := hidX (C8.out.mko M9.out hpb)
                clear hHeld
                go_wp2_with fail
                go_roundw
                case rel => exact ⟨a8, c8, n, M ++ [xr], l2, ev4, bv4, by simp; omega, C9.out, by simpa [RL] using P9.out, M8.out.trans M9.out, by simpa [hru.out] using PL2.out⟩
                case measure =>
                  have hL9 : lenR pb (w8.setCell ⟨pb, 4, none⟩ (.slice a8 (M.length + 1) c8)) = M.length + 1 := by
                    unfold lenR
                    rw [P9.out.cell (j := 2) rfl]
                    rfl
                  change 16 - lenR pb (w8.setCell ⟨pb, 4, none⟩ (.slice a8 (M.length + 1) c8)) < 16 - lenR pb wr
                  rw [hL9, HML.out]
                  omega
end Go.Proofs.YtgkoiojelckblaaGreatDoor

namespace Go.Proofs.YtgkoiojelckblaaGreatDoor
open Go.RowKit
attribute [local go_sem ↓] Go.wp_at_zero Go.wp_at_succ

set_option maxRecDepth 100000 in
set_option maxHeartbeats 1600000 in
theorem ffSource_any (w : World) (pb : Nat) (src : Bs) (a : Option Addr) (c : Nat) (h : w.cell? ⟨pb, 0, none⟩ = some (.slice a src.length c)) (hE : ErrT w) (hgp : 0 < pb) (r : Except Flt Unit) (Q : World → World → Prop)
    (hrd : src.length ≤ 20000 → ∀ u, Below w.heap.size w u → Calls Tryz.prog 16 #[.pointer (some ⟨pb, 0, none⟩)] u fun e w' => MkO (some pb) u w' ∧ match r with | .error f => e = fltE f | .ok _ => e = .returned (.tuple #[]) ∧ Q u w') :
    Calls Tryz.prog 15 #[.pointer (some ⟨pb, 0, none⟩), .func (.func 16) #[.pointer (some ⟨pb, 0, none⟩)] #[]] w (FfPost w pb src.length r Q) := by
  have hmf : ∀ (fn : Fn) (first cap : Array Value) (w : World), (Instr.makeFunc fn first cap).run Tryz.prog w = .ok (.func fn first cap) w := fun _ _ _ _ => rfl
  have hpb := World.block_lt_of_cell? w ⟨pb, 0, none⟩ h
  have HE := hidX hE
  have HRD := hidX hrd
  clear hE hrd
  go_enter_defers Tryz.func15, Tryz.ntmps15
  go_upto_region 2 with fail
  refine lift_alloc ?_
  intro w1 hW1 hq1
  have hl1 : w.heap.size < w1.heap.size := lt_of_block' hq1
  have c0 := cell_below hW1 h
  have M1 := hidX (MkO.of_below hW1 : MkO (some pb) w w1)
  have HW1 := hidX hW1
  have HQ1 := hidX hq1
  have E1 := hidX (HE.out.mko M1.out hgp)
  clear hW1 hq1 h
  by_cases hl : 20000 < src.length
  · have hl' : (20000 : Int) < (src.length : Int) := by omega
    have HL := hidX hl
    clear hl
    go_wp2_with fail
    refine leaves_cons (f := 36) (args := #[.pointer (some ⟨w.heap.size, 0, none⟩)]) (by simp) (by simp [go_sem]) ?_
    refine (ask_fault (4, 0) w.heap.size _ w1 E1.out HQ1.out rfl []).mono ?_
    rintro e u' w2 ⟨rfl, rfl, hq2, hm2⟩
    have hld := run_loadVar_mid (P := Tryz.prog) w2 w.heap.size 0 62 [.int .i64 4, .int .i64 ((0 : Nat) : Int)] _ (range_blk hq2) Tryz.underlying62 rfl infoFlt
    have hP : FfPost w pb src.length r Q (.returned (.agg #[.int .i64 4, .int .i64 ((0 : Nat) : Int)])) w2 := by
      refine ⟨?_, ?_⟩
      · exact ⟨(M1.out.rest).trans hm2.rest, fun g hg hne => (hm2.block g (by omega) (fun e => by injection e; omega)).trans (M1.out.block g hg hne)⟩
      · rw [if_pos HL.out]
    simp [Leaves, settle, results, Tryz.results15, asAddr, hld]
    exact hP
  · have hl' : ¬ (20000 : Int) < (src.length : Int) := by omega
    have HL := hidX hl
    replace HRD := hidX (HRD.out (by omega) w1 HW1.out)
    cases r with
    | error f =>
      clear hl
      go_wp2_with (first | (go_at_call 16; refine HRD.out.mono ?_; rintro e w2 ⟨hm2, rfl⟩; unfold fltE) | fail)
      have hq2 := (hm2.block w.heap.size hl1 (fun e => by injection e; omega)).trans HQ1.out
      refine leaves_cons (f := 36) (args := #[.pointer (some ⟨w.heap.size, 0, none⟩)]) (by simp) (by simp [go_sem]) ?_
      refine (ask_fault f w.heap.size _ w2 (E1.out.mko hm2 hgp) hq2 rfl []).mono ?_
      rintro e u' w3 ⟨rfl, rfl, hq3, hm3⟩
      have hld := run_loadVar_mid (P := Tryz.prog) w3 w.heap.size 0 62 [.int .i64 f.1, .int .i64 (f.2 : Int)] _ (range_blk hq3) Tryz.underlying62 rfl infoFlt
      have hs2 := hm2.rest.size
      have hP : FfPost w pb src.length (.error f) Q (.returned (.agg #[.int .i64 f.1, .int .i64 (f.2 : Int)])) w3 := by
        refine ⟨?_, ?_⟩
        · have M2 := M1.out.trans hm2
          exact ⟨M2.rest.trans hm3.rest, fun g hg hne => (hm3.block g (by omega) (fun e => by injection e; omega)).trans (M2.block g hg hne)⟩
        · rw [if_neg HL.out]
      simp [Leaves, settle, results, Tryz.results15, asAddr, hld]
      exact hP
    | ok u =>
      clear hl
      go_wp2_with (first | (go_at_call 16; refine HRD.out.mono ?_; rintro e w2 ⟨hm2, rfl, hQ2⟩; have hq2 := (hm2.block w.heap.size hl1 (fun e => by injection e; omega)).trans HQ1.out; have HQ := hidX hQ2; clear hQ2) | (refine wpList_store_blk (by rfl) 62 (.tmp 4) (.tmp 17) (by rfl) w.heap.size [.int .i64 0, .int .i64 0] (by rfl) (by rfl) _ 62 hq2 (by rfl) infoFlt (by simp [Value.oneCell']) ?_; intro w3 hb3 ht3) | fail)
      refine leaves_cons (f := 36) (args := #[.pointer (some ⟨w.heap.size, 0, none⟩)]) (by simp) (by simp [go_sem]) ?_
      refine (ask_idle w.heap.size w3).mono ?_
      rintro e u' w4 ⟨rfl, rfl, rfl⟩
      have hld := run_loadVar_mid (P := Tryz.prog) w4 w.heap.size 0 62 [.int .i64 0, .int .i64 0] _ (range_blk hb3.out) Tryz.underlying62 rfl infoFlt
      have hP : FfPost w pb src.length (.ok u) Q (.returned (.agg #[.int .i64 0, .int .i64 0])) w4 := by
        refine ⟨(M1.out.trans hm2).turn ht3.out (Nat.le_refl _), ?_⟩
        rw [if_neg HL.out]
        exact ⟨rfl, w1, w2, HW1.out, hl1, HQ.out, ⟨_, hq2⟩, ht3.out⟩
      refine ⟨.agg #[.int .i64 0, .int .i64 0], ?_, hP⟩
      simp [results, Tryz.results15, asAddr, hld, Act.put]
end Go.Proofs.YtgkoiojelckblaaGreatDoor

namespace Go.Proofs.YtgkoiojelckblaaGreatDoor
open Go.RowKit
attribute [local go_sem ↓] Go.wp_at_zero Go.wp_at_succ

theorem infoPd : (Tryz.prog.info? 27).map (·.size) = some 3 := by kernel_rfl
/-- What ParseRules leaves. -/
def PrPost (w : World) (r : Px (List Ru)) (e : Ending) (w' : World) : Prop := Below w.heap.size w w' ∧ ∃ (code : Int) (pos : Nat) (la : Option Addr) (lc : Nat) (M : List RX), e = .returned (.agg (csL code pos (.slice la M.length lc)).toArray) ∧ RRow w' w.heap.size la lc M ∧ match r with
  | .error f => code = f.1 ∧ pos = f.2 ∧ M = []
  | .ok (vs, _) => code = 0 ∧ pos = 0 ∧ M.map RX.ru = vs
theorem RRow.base {w : World} {B B' : Nat} {a : Option Addr} {c : Nat} {M : List RX} (h : RRow w B a c M) (hb : B' ≤ B) : RRow w B' a c M := ⟨owns_base h.row hb, fun x hx => (h.all x hx).base hb, h.pair⟩
theorem RRow.turned {w w' : World} {B b : Nat} {a : Option Addr} {c : Nat} {M : List RX} {cs : Array Value} {t : TypeId} (h : RRow w B a c M) (ht : Turned w w' b) (hb : w.heap[b]? = some (.cells cs t (0, 0))) (h0 : 41 ≠ t) (h1 : 45 ≠ t) (h2 : 49 ≠ t) (h3 : 138 ≠ t) (h4 : 53 ≠ t) (h5 : 3 ≠ t) : RRow w' B a c M :=
  ⟨owns_of_block h.row (fun g hg => ht.block g (fun e => by
    obtain ⟨c1, e1⟩ := own_type h.row hg
    subst e
    exact ty_ne e1 hb h0)), fun x hx => ⟨(h.all x hx).pts.turned ht hb h1 h2, owns_of_block (h.all x hx).exs (fun g hg => ht.block g (fun e => by
    obtain ⟨c1, e1⟩ := own_type (h.all x hx).exs hg
    subst e
    exact ty_ne e1 hb h3)), (h.all x hx).acs.turned ht hb h4 h5, (h.all x hx).mp, (h.all x hx).ma⟩, h.pair⟩
/-- Rules that were read to their end. -/
def SrcQ (pb : Nat) (src : Bs) (a : Option Addr) (c : Nat) (am cm lv : Value) (vs : List Ru) (u w' : World) : Prop := ∃ la lc M ev bv l, M.map RX.ru = vs ∧ RRow w' u.heap.size la lc M ∧ PSt w' pb src a c l (RL am cm (.slice la M.length lc) lv ev bv)
set_option maxRecDepth 100000 in
set_option maxHeartbeats 3200000 in
theorem iParseRules_any (src : Bs) (a : Option Addr) (c : Nat) (w : World) (hv : BysAt w a src) (hcap : src.length ≤ c) (hfar : ∀ b o, a = some ⟨b, o, none⟩ → b < w.heap.size) (hE : EnvAt w w.heap.size) (hT : ErrT w) : Calls Tryz.prog 6 #[.slice a src.length c] w (PrPost w (prR src)) := by
  have hmf : ∀ (fn : Fn) (first cap : Array Value) (w : World), (Instr.makeFunc fn first cap).run Tryz.prog w = .ok (.func fn first cap) w := fun _ _ _ _ => rfl
  have HV := hidX hv
  have HF := hidX hfar
  have HE := hidX hE
  have HT := hidX hT
  clear hv hfar hE hT
  go_enter Tryz.func6, Tryz.ntmps6
  go_upto_region 1 with fail
  refine lift_alloc ?_
  intro w1 hW1 hq1
  have hl1 : w.heap.size < w1.heap.size := lt_of_block' hq1
  have HW1 := hidX hW1
  have HQ1 := hidX hq1
  clear hW1 hq1
  go_upto_region 2 with (first | (go_at_call 14; refine (newParser_any a src.length c w1).mono ?_; rintro e w2 ⟨rfl, hb2, am, cm, hq2, hA2, hC2, hla, hlc⟩) | fail)
  have HE1 : EnvAt w1 w1.heap.size := ⟨(HE.out.keep HW1.out).err, (HE.out.keep HW1.out).tests, Nat.lt_trans HE.out.g1 hl1, Nat.lt_trans HE.out.g2 hl1⟩
  have hT2 : ErrT w2 := (World.cell?_of_block (w := w) (((HW1.out.trans (hb2.mono (Nat.le_of_lt hl1))).block 0 (lt_cellX HT.out)))).trans HT.out
  have c02 := cell_of hq2 (j := 0) rfl
  have hp2 : w1.heap.size < w2.heap.size := lt_of_block' hq2
  have HFF := hidX (ffSource_any w2 w1.heap.size src a c c02 hT2 (Nat.lt_trans (lt_cellX HT.out) hl1) (unitX (pRules (wordsOf src))) (SrcQ w1.heap.size src a c (.map (some am)) (.map (some cm)) (.slice none 0 0) (match pRules (wordsOf src) with | .error _ => [] | .ok (vs, _) => vs)) (fun hl u hu => by
    have hr := NpPost.ready hq2 hb2 (HV.out.below HW1.out) hcap hl (fun b o e => Nat.lt_trans (HF.out b o e) hl1) HE1
    refine (source_any u w1.heap.size am src a c (wordsOf src) (.map (some cm)) (.slice none 0 0) (.slice none 0 0) (.int .i64 0) (hr.below hu) (hA2.below hu) hla).mono ?_
    intro e w' hp
    obtain ⟨hm, hp⟩ := hp
    refine ⟨hm, ?_⟩
    unfold unitX
    cases hc : pRules (wordsOf src) with
    | error f => rw [hc] at hp; exact hp
    | ok q =>
      obtain ⟨vs, l⟩ := q
      rw [hc] at hp
      obtain ⟨he, la, lc, M, ev, bv, h1, h2, h3⟩ := hp
      exact ⟨he, la, lc, M, ev, bv, l, h1, h2, h3⟩))
  have HRB2 := hidX ((hb2.block w.heap.size hl1).trans HQ1.out)
  have BL2 := hidX (HW1.out.trans (hb2.mono (Nat.le_of_lt hl1)) : Below w.heap.size w w2)
  clear hb2 hq2 hA2 hC2 hla hlc HE1 hT2 c02
  cases hr : (if 20000 < src.length then .error (4, 0) else unitX (pRules (wordsOf src)) : Except Flt Unit) with
  | error f =>
    have hpc : prR src = .error f := by
      unfold prR
      unfold unitX at hr
      split at hr
      · rw [if_pos (by assumption)]
        injection hr with hr
        rw [hr]
      · rw [if_neg (by assumption)]
        cases hc : pRules (wordsOf src) with
        | error f' =>
          rw [hc] at hr
          injection hr with hr
          rw [hr]
        | ok q => rw [hc] at hr; cases hr
    have HPC := hidX hpc
    have hne := pr_code hpc
    have hne' : (f.1 != 0) = true := by simpa using hne
    unfold FfPost at HFF
    rw [hr] at HFF
    clear hr hpc
    go_upto_region 3 with (first | (go_at_call 15; refine HFF.out.mono ?_; rintro e w3 ⟨hm3, rfl⟩) | fail)
    refine lift_alloc ?_
    intro w4 hW4 hq4
    have hs3 := hm3.rest.size
    have hs4 : w3.heap.size < w4.heap.size := lt_of_block' hq4
    have d0 := cell_of (L := [_, _]) hq4 (j := 0) rfl
    have d1 := cell_of (L := [_, _]) hq4 (j := 1) rfl
    have hrq := (hW4.block w.heap.size (by omega)).trans ((hm3.block w.heap.size (by omega) (fun e => by injection e; omega)).trans HRB2.out)
    have BL4 := hidX ((BL2.out.trans (hm3.below (by omega) (fun g e => by injection e; omega))).trans (hW4.mono (by omega)) : Below w.heap.size w w4)
    clear hW4 hq4 hm3 HFF hne
    go_wp2_with (first | (refine wpList_store_blk (by rfl) 27 (.tmp 2) (.tmp 18) (by rfl) w.heap.size (csL f.1 f.2 (.slice none 0 0)) (by rfl) (by rfl) _ 27 hrq (by rfl) infoPd (csL_one _ _ _ _ _) ?_; intro w5 hb5 ht5) | fail)
    have hld := run_loadVar_mid (P := Tryz.prog) w5 w.heap.size 0 27 (csL f.1 f.2 (.slice none 0 0)) _ (range_blk hb5.out) Tryz.underlying27 rfl infoPd
    (try go_frame)
    refine bodyPost_ret (v := .agg (csL f.1 f.2 (.slice none 0 0)).toArray) (by simp [results, Tryz.results6, asAddr, hld]) rfl ⟨BL4.out.trans (ht5.out.below (Nat.le_refl _)), f.1, f.2, none, 0, [], rfl, RRow.nil _ _, ?_⟩
    rw [HPC.out]
    exact ⟨rfl, rfl, rfl⟩
  | ok u =>
    have hpc : ∃ vs l, pRules (wordsOf src) = .ok (vs, l) ∧ prR src = .ok (vs, l) := by
      unfold prR
      unfold unitX at hr
      split at hr
      · cases hr
      · rw [if_neg (by assumption)]
        cases hc : pRules (wordsOf src) with
        | error f' => rw [hc] at hr; cases hr
        | ok q => exact ⟨q.1, q.2, rfl, rfl⟩
    obtain ⟨vs, l, hp1, hpc⟩ := hpc
    have HPC := hidX hpc
    unfold FfPost at HFF
    rw [hr, hp1] at HFF
    clear hr hpc hp1
    go_upto_region 3 with (first | (go_at_call 15; refine HFF.out.mono ?_; rintro e w3 ⟨hm3, rfl, u1, u2, hu1, hul, ⟨la, lc, M, ev, bv, l', hMv, hco, hps⟩, ⟨cs, hcs⟩, ht3⟩) | fail)
    refine lift_alloc ?_
    intro w4 hW4 hq4
    have hs3 := hm3.rest.size
    have hs4 : w3.heap.size < w4.heap.size := lt_of_block' hq4
    have d0 := cell_of (L := [_, _]) hq4 (j := 0) rfl
    have d1 := cell_of (L := [_, _]) hq4 (j := 1) rfl
    have hrq := (hW4.block w.heap.size (by omega)).trans ((hm3.block w.heap.size (by omega) (fun e => by injection e; omega)).trans HRB2.out)
    have BL4 := hidX ((BL2.out.trans (hm3.below (by omega) (fun g e => by injection e; omega))).trans (hW4.mono (by omega)) : Below w.heap.size w w4)
    have hp4 := ((hps.turned ht3 hp2).below hW4).cell (j := 2) rfl
    have C4 := hidX (((hco.turned ht3 hcs (by decide) (by decide) (by decide) (by decide) (by decide) (by decide)).mko (MkO.of_below hW4 : MkO (some w1.heap.size) w3 w4) (by omega)).base (show w.heap.size ≤ u1.heap.size by omega))
    have HMV := hidX hMv
    clear hW4 hq4 hm3 HFF hps hco hcs ht3 hMv hu1
    go_wp2_with (first | (refine wpList_store_blk (by rfl) 27 (.tmp 2) (.tmp 23) (by rfl) w.heap.size (csL 0 0 (.slice la M.length lc)) (by rfl) (by rfl) _ 27 hrq (by rfl) infoPd (csL_one _ _ _ _ _) ?_; intro w5 hb5 ht5) | fail)
    have hld := run_loadVar_mid (P := Tryz.prog) w5 w.heap.size 0 27 (csL 0 0 (.slice la M.length lc)) _ (range_blk hb5.out) Tryz.underlying27 rfl infoPd
    (try go_frame)
    refine bodyPost_ret (v := .agg (csL 0 0 (.slice la M.length lc)).toArray) (by simp [results, Tryz.results6, asAddr, hld]) rfl ⟨BL4.out.trans (ht5.out.below (Nat.le_refl _)), 0, 0, la, lc, M, rfl, C4.out.turned ht5.out hrq (by decide) (by decide) (by decide) (by decide) (by decide) (by decide), ?_⟩
    rw [HPC.out]
    exact ⟨rfl, rfl, HMV.out⟩
end Go.Proofs.YtgkoiojelckblaaGreatDoor

namespace Go.Proofs.YtgkoiojelckblaaGreatDoor
open Go.RowKit
attribute [local go_sem ↓] Go.wp_at_zero Go.wp_at_succ

theorem EnvAt.laterG {w w' : World} (h : EnvAt w w.heap.size) (hb : Below w.heap.size w w') : EnvAt w' w'.heap.size :=
  ⟨(h.keep hb).err, (h.keep hb).tests, Nat.lt_of_lt_of_le h.g1 hb.size, Nat.lt_of_lt_of_le h.g2 hb.size⟩
theorem ErrT.laterG {w w' : World} (h : ErrT w) (hb : Below w.heap.size w w') : ErrT w' := (World.cell?_of_block (w := w) (hb.block 0 (lt_cellX h))).trans h
theorem infoOt : (Tryz.prog.info? 32).map (·.size) = some 7 := by kernel_rfl
def outL (code sub : Int) (pos : Int) : List Value := [.int .i64 code, .int .i64 sub, .int .i64 pos, .slice none 0 0, .slice none 0 0, .int .i64 0, .int .i64 0]
theorem outL_one (code sub pos : Int) : ∀ v ∈ outL code sub pos, v.oneCell' = true := by
  intro v hv
  simp [outL] at hv
  rcases hv with rfl | rfl | rfl | rfl | rfl <;> rfl
theorem iParse_bad {src : Bs} {f : Flt} (hp : prR src = .error f) (a : Option Addr) (c : Nat) (w : World) (hv : BysAt w a src) (hcap : src.length ≤ c) (hfar : ∀ b o, a = some ⟨b, o, none⟩ → b < w.heap.size) (hE : EnvAt w w.heap.size) (hT : ErrT w) : Calls Tryz.prog 6 #[.slice a src.length c] w fun e w' => (∃ la lc, e = .returned (.agg #[.int .i64 f.1, .int .i64 (f.2 : Int), .slice la 0 lc])) ∧ Below w.heap.size w w' := by
  refine (iParseRules_any src a c w hv hcap hfar hE hT).mono ?_
  rintro e w' ⟨hb, code, pos, la, lc, M, rfl, hr, hm⟩
  rw [hp] at hm
  obtain ⟨h1, h2, h3⟩ := hm
  subst h1
  subst h2
  subst h3
  exact ⟨⟨la, lc, rfl⟩, hb⟩
set_option maxHeartbeats 1600000 in
theorem iSession_bad {src : Bs} {f : Flt} (hp : prR src = .error f) (a : Option Addr) (c : Nat) (sv : Value) (how : Int) (w : World) (hv : BysAt w a src) (hcap : src.length ≤ c) (hfar : ∀ b o, a = some ⟨b, o, none⟩ → b < w.heap.size) (hE : EnvAt w w.heap.size) (hT : ErrT w) (h0 : 0 ≤ how) (h3 : how ≤ 3) :
    Calls Tryz.prog 7 #[.slice a src.length c, sv, .int .i64 how, .int .i64 5, .bool false] w fun e w' => e = .returned (.agg (outL 2 f.1 f.2).toArray) ∧ Below w.heap.size w w' := by
  have hne := pr_code hp
  have hne' : (f.1 != 0) = true := by simpa using hne
  have HPR := hidX (fun u (hu : Below w.heap.size w u) => iParse_bad hp a c u (hv.below hu) hcap (fun b o e => Nat.lt_of_lt_of_le (hfar b o e) hu.size) (hE.laterG hu) (hT.laterG hu))
  have k1 : ¬ how < 0 := by omega
  have k2 : ¬ 3 < how := by omega
  clear hv hfar hE hT hp hne
  go_enter Tryz.func7, Tryz.ntmps7
  go_upto_region 1 with fail
  refine lift_alloc ?_
  intro w1 hW1 hq1
  have hl1 : w.heap.size < w1.heap.size := lt_of_block' hq1
  have HW1 := hidX hW1
  have HQ1 := hidX hq1
  clear hW1 hq1
  go_upto_region 4 with (first | (go_at_call 6; refine (HPR.out _ HW1.out).mono ?_; rintro e w2 ⟨⟨la, lc, rfl⟩, hb2⟩) | fail)
  refine lift_alloc ?_
  intro w3 hW3 hq3
  have d0 := cell_of (L := [_, _, _]) hq3 (j := 0) rfl
  have d1 := cell_of (L := [_, _, _]) hq3 (j := 1) rfl
  have hs2 := hb2.size
  have hs3 : w2.heap.size < w3.heap.size := lt_of_block' hq3
  have hrq := (hW3.block w.heap.size (by omega)).trans ((hb2.block w.heap.size hl1).trans HQ1.out)
  have B3 := hidX ((HW1.out.trans (hb2.mono (Nat.le_of_lt hl1))).trans (hW3.mono (by omega)) : Below w.heap.size w w3)
  clear hW3 hq3 hb2 HPR HW1 HQ1
  go_wp2_with (first | (refine wpList_store_blk (by rfl) 32 (.tmp 10) (.tmp 42) (by rfl) w.heap.size (outL 2 f.1 f.2) (by rfl) (by rfl) _ 32 hrq (by rfl) infoOt (outL_one _ _ _) ?_; intro w5 hb5 ht5) | fail)
  have hld := run_loadVar_mid (P := Tryz.prog) w5 w.heap.size 0 32 (outL 2 f.1 f.2) _ (range_blk hb5.out) Tryz.underlying32 rfl infoOt
  (try go_frame)
  exact bodyPost_ret (v := .agg (outL 2 f.1 f.2).toArray) (by simp [results, Tryz.results7, asAddr, hld]) rfl ⟨rfl, B3.out.trans (ht5.out.below (Nat.le_refl _))⟩
set_option maxHeartbeats 800000 in
theorem pick_zero (a : Option Addr) (c : Nat) (l : Bs) (w : World) (hv : BysAt w a l) : Calls Tryz.prog 8 #[.slice a l.length c, .int .i64 0] w fun e w' => ∃ k : Int, 0 ≤ k ∧ k ≤ 255 ∧ e = .returned (.int .i64 k) ∧ Below w.heap.size w w' := by
  cases l with
  | nil =>
    go_enter Tryz.func8, Tryz.ntmps8
    go_wp2_with fail
    go_ret
    exact ⟨0, by omega, by omega, rfl, Below.refl _ _⟩
  | cons x r =>
    obtain ⟨b, o, rfl, _, hc⟩ := hv 0 x rfl
    rw [Nat.add_zero] at hc
    have hx := x.toNat_lt
    have hn : ¬ (((x :: r).length : Nat) : Int) = 0 := by rw [List.length_cons]; omega
    have hp : (0 : Int) < (((x :: r).length : Nat) : Int) := by rw [List.length_cons]; omega
    obtain ⟨N, hN⟩ : ∃ N, N = (x :: r).length := ⟨_, rfl⟩
    rw [← hN] at hn hp ⊢
    clear hN
    go_enter Tryz.func8, Tryz.ntmps8
    go_wp2_with fail
    go_ret
    exact ⟨(x.toNat : Int), by omega, by omega, rfl, Below.refl _ _⟩
end Go.Proofs.YtgkoiojelckblaaGreatDoor

namespace Go.Proofs.YtgkoiojelckblaaGreatDoor

theorem isE_eq {s : ByteArray} (h : isE s = true) : s = mkS [] := by
  have : bsOf s = [] := by
    have e : s.data.toList = s.toList := (ByteArray.toList_eq _).symm
    show s.data.toList = []
    rw [e]
    simpa [isE] using h
  rw [← mkS_bs s, this]
theorem zeroV_eq {v : V} (h : zeroV v = true) : v = zVr := by
  obtain ⟨k, n, s⟩ := v
  have hv : zeroV (k, n, s) = (k == 0 && (n == 0 && isE s)) := rfl
  rw [hv] at h
  simp at h
  obtain ⟨rfl, rfl, h⟩ := h
  rw [isE_eq h]
  rfl
theorem brk41 (r : Bs) : Brk (41 :: r) := Brk.cons r (by decide)
theorem brk32 (r : Bs) : Brk (32 :: r) := Brk.cons r (by decide)
theorem wds32 (r : Bs) (k : Nat) : wds (32 :: r) k = wds r (k + 1) := wds_blank r k (by decide)
theorem wds10 (r : Bs) (k : Nat) : wds (10 :: r) k = wds r (k + 1) := wds_blank r k (by decide)
/-- What an operand is: a value or a variable. -/
theorem operand_back {t : Tm} (h : operandOk t = true) (hn : numOk t.val.num) : (∃ K P n, Tok (txO t) K P n ∧ (K = 48 ∨ K = 97) ∧ t.var = mkS [] ∧ t.val = wVal K n P) ∨ (∃ P, Tok (txO t) 63 P 0 ∧ t.var = mkS P ∧ t.val = zVr) := by
  unfold operandOk at h
  unfold txO
  cases hv : isE t.var
  · rw [hv] at h
    simp at h
    rw [if_neg (by simp)]
    exact .inr ⟨bsOf t.var, Tok.var h.1, (mkS_bs _).symm, zeroV_eq h.2⟩
  · have hg : gVal t.val = true := by
      cases hg : gVal t.val
      · rw [hv, hg] at h
        simp at h
        have e := isE_eq hv
        rw [e] at h
        exact absurd h.1 (by decide)
      · rfl
    rw [if_pos rfl]
    rcases Tok.val hg hn with ⟨h1, h2⟩ | ⟨h1, h2⟩
    · exact .inl ⟨48, [], _, h1, .inl rfl, isE_eq hv, h2⟩
    · exact .inl ⟨97, _, 0, h1, .inr rfl, isE_eq hv, h2⟩
theorem term_back {t : Tm} (h : gTm t = true) (hn : numOk t.val.num) (r : Bs) (k : Nat) (hr : Brk r) : pTerm (wds (txT t ++ r) k) = .ok (t, wds r (k + (txT t).length)) := by
  obtain ⟨kd, op, var, val⟩ := t
  unfold gTm at h
  simp only at h hn
  by_cases k0 : kd = 0
  · subst k0
    simp at h
    obtain ⟨rfl, h1, h2⟩ := h
    obtain rfl := isE_eq h1
    obtain rfl := zeroV_eq h2
    have e : txT ⟨0, 0, mkS [], zVr⟩ = [95] := rfl
    obtain ⟨x, h1, h2, _, _⟩ := Tok.und.next r k hr
    rw [e]
    unfold pTerm
    rw [h1, andP_ok, if_pos h2]
  by_cases k1 : kd = 1
  · subst k1
    simp at h
    obtain ⟨rfl, h1, h2⟩ := h
    obtain rfl := isE_eq h1
    have e : txT ⟨1, 0, mkS [], val⟩ = txV val := rfl
    rw [e]
    unfold pTerm
    rcases Tok.val h2 hn with ⟨h1, h2⟩ | ⟨h1, h2⟩
    · obtain ⟨x, q1, q2, q3, q4⟩ := h1.next r k hr
      rw [q1, andP_ok, if_neg (by rw [q2]; decide), if_pos (.inl q2), q2, q3, q4, ← h2]
    · obtain ⟨x, q1, q2, q3, q4⟩ := h1.next r k hr
      rw [q1, andP_ok, if_neg (by rw [q2]; decide), if_pos (.inr q2), q2, q3, q4, ← h2]
  by_cases k2 : kd = 2
  · subst k2
    simp at h
    obtain ⟨rfl, h1, h2⟩ := h
    obtain rfl := zeroV_eq h2
    have e : txT ⟨2, 0, var, zVr⟩ = 63 :: bsOf var := rfl
    obtain ⟨x, q1, q2, q3, q4⟩ := (Tok.var (s := bsOf var) h1).next r k hr
    rw [e]
    unfold pTerm
    rw [q1, andP_ok, if_neg (by rw [q2]; decide), if_neg (by rw [q2]; decide), if_pos q2, q3, mkS_bs]
  by_cases k3 : kd = 3
  · subst k3
    simp at h
    obtain ⟨h1, h2, h3⟩ := h
    have e : txT ⟨3, op, var, val⟩ ++ r = 40 :: (opTx.getD (op.toNat - 1) [] ++ (32 :: (txO ⟨3, op, var, val⟩ ++ (41 :: r)))) := by
      simp [txT]
    have el : (txT ⟨3, op, var, val⟩).length = 1 + (opTx.getD (op.toNat - 1) []).length + 1 + (txO ⟨3, op, var, val⟩).length + 1 := by
      simp [txT]
      omega
    obtain ⟨ht, hx⟩ := Tok.test (i := op.toNat - 1) (by omega)
    have hop : (testIx (opTx.getD (op.toNat - 1) []) : Int) = op := by rw [hx]; omega
    rw [e, el]
    unfold pTerm
    rw [next_open, andP_ok]
    have hp : pkW ⟨1, k, [], 0⟩ = 40 := rfl
    rw [if_neg (by rw [hp]; decide), if_neg (by rw [hp]; decide), if_neg (by rw [hp]; decide), if_pos hp]
    unfold pTest
    obtain ⟨o, q1, q2, q3, q4⟩ := ht.take (32 :: (txO ⟨3, op, var, val⟩ ++ (41 :: r))) (k + 1) (brk32 _)
    rw [q1, andP_ok, wds32]
    rcases operand_back (t := ⟨3, op, var, val⟩) h3 hn with ⟨K, P, n, hk, hK, e1, e2⟩ | ⟨P, hk, e1, e2⟩
    · obtain ⟨x, p1, p2, p3, p4⟩ := hk.next (41 :: r) (k + 1 + (opTx.getD (op.toNat - 1) []).length + 1) (brk41 _)
      rw [p1, andP_ok, if_pos (by rw [p2]; exact hK), take_close, andP_ok, q3, hop, p2, p3, p4]
      simp only at e1 e2
      rw [← e1, ← e2]
      congr 3
      omega
    · obtain ⟨x, p1, p2, p3, p4⟩ := hk.next (41 :: r) (k + 1 + (opTx.getD (op.toNat - 1) []).length + 1) (brk41 _)
      rw [p1, andP_ok, if_neg (by rw [p2]; decide), if_pos p2, take_close, andP_ok, q3, hop, p3]
      simp only at e1 e2
      rw [← e1, ← e2]
      congr 3
      omega
  · simp [k0, k1, k2, k3] at h
theorem term_first {l l1 : List Wd} {t : Tm} (h : pTerm l = .ok (t, l1)) : ∃ x r, nextW l = .ok (x, r) ∧ pkW x ≠ 41 := by
  unfold pTerm at h
  cases hr : nextW l with
  | error f => rw [hr] at h; cases h
  | ok q =>
    obtain ⟨x, r⟩ := q
    refine ⟨x, r, rfl, fun e => ?_⟩
    rw [hr, andP_ok, e] at h
    simp at h
theorem terms_back : ∀ (ts : List Tm) (n : Nat) (r : Bs) (k : Nat), ts.length ≤ n → (∀ t ∈ ts, gTm t = true ∧ numOk t.val.num) → pList pTerm n (wds (txTs ts ++ 41 :: r) k) = .ok (ts, wds r (k + (txTs ts).length + 1))
  | [], n, r, k, _, _ => by
    show pList pTerm n (wds (41 :: r) k) = _
    rw [pList_end (next_close r k) rfl]
    rfl
  | t :: ts, n, r, k, hl, ht => by
    obtain ⟨m, rfl⟩ : ∃ m, n = m + 1 := ⟨n - 1, by simp at hl; omega⟩
    obtain ⟨g1, g2⟩ := ht t (by simp)
    have e : txTs (t :: ts) ++ 41 :: r = 32 :: (txT t ++ (txTs ts ++ 41 :: r)) := by simp [txTs]
    have el : (txTs (t :: ts)).length = 1 + (txT t).length + (txTs ts).length := by simp [txTs]; omega
    have hb : Brk (txTs ts ++ 41 :: r) := by
      cases ts with
      | nil => exact brk41 r
      | cons u us => exact Brk.cons _ (by decide)
    have h1 := term_back g1 g2 (txTs ts ++ 41 :: r) (k + 1) hb
    obtain ⟨x, q, hx, hne⟩ := term_first h1
    rw [e, el, wds32]
    unfold pList
    rw [hx]
    simp only [if_neg hne]
    rw [h1]
    simp only
    rw [terms_back ts m r _ (by simp at hl; omega) (fun u hu => ht u (by simp [hu]))]
    simp only
    congr 3
    omega
theorem gCls_sym {s : ByteArray} (h : gCls s = true) : gSym (bsOf s) = true ∧ bsOf s ≠ notT := by
  unfold gCls at h
  simp at h
  refine ⟨h.1, fun e => h.2 ?_⟩
  rw [← mkS_bs s, e]
  rfl
theorem pat_back {p : Pt} (h : gPt p = true) (hn : ∀ t ∈ p.terms, numOk t.val.num) (r : Bs) (k : Nat) : andP (takeW 40 (wds (txP p ++ r) k)) (fun _ l1 => pPat l1) = .ok (p, wds r (k + (txP p).length)) := by
  obtain ⟨neg, cls, ts⟩ := p
  unfold gPt at h
  simp at h
  obtain ⟨hc, hl, ha⟩ := h
  have ht : ∀ t ∈ ts, gTm t = true ∧ numOk t.val.num := fun t ht => ⟨ha t ht, hn t ht⟩
  obtain ⟨hs, hne⟩ := gCls_sym hc
  have hb : Brk (txTs ts ++ 41 :: r) := by
    cases ts with
    | nil => exact brk41 r
    | cons u us => exact Brk.cons _ (by decide)
  cases neg with
  | false =>
    have e : txP ⟨false, cls, ts⟩ ++ r = 40 :: (bsOf cls ++ (txTs ts ++ 41 :: r)) := by simp [txP]
    have el : (txP ⟨false, cls, ts⟩).length = 1 + (bsOf cls).length + (txTs ts).length + 1 := by simp [txP]; omega
    rw [e, el, take_open, andP_ok]
    obtain ⟨x, q1, q2, q3, q4⟩ := (Tok.sym hs).take (txTs ts ++ 41 :: r) (k + 1) hb
    unfold pPat
    rw [q1, andP_ok, q3, if_neg hne, terms_back ts 6 r _ hl ht, andP_ok, mkS_bs]
    congr 3
    omega
  | true =>
    have e : txP ⟨true, cls, ts⟩ ++ r = 40 :: (notX ++ (32 :: (bsOf cls ++ (txTs ts ++ 41 :: r)))) := by simp [txP]
    have el : (txP ⟨true, cls, ts⟩).length = 1 + notX.length + 1 + (bsOf cls).length + (txTs ts).length + 1 := by simp [txP]; omega
    rw [e, el, take_open, andP_ok]
    obtain ⟨x, q1, q2, q3, q4⟩ := (Tok.sym (t := notX) (by decide)).take (32 :: (bsOf cls ++ (txTs ts ++ 41 :: r))) (k + 1) (brk32 _)
    obtain ⟨y, p1, p2, p3, p4⟩ := (Tok.sym hs).take (txTs ts ++ 41 :: r) (k + 1 + notX.length + 1) hb
    unfold pPat
    rw [q1, andP_ok, q3, if_pos (show notX = notT from rfl), wds32]
    unfold pClass
    rw [p1]
    simp only [p3, if_neg hne, andP_ok]
    rw [terms_back ts 6 r _ hl ht, andP_ok, mkS_bs]
    congr 3
    omega
theorem wdsLine (r : Bs) (k : Nat) : wds (lineB ++ r) k = wds r (k + 3) := by
  show wds (10 :: 32 :: 32 :: r) k = _
  rw [wds10, wds32, wds32]
theorem pats_back : ∀ (ps : List Pt) (n : Nat) (r : Bs) (k : Nat), ps.length ≤ n → (∀ p ∈ ps, gPt p = true ∧ ∀ t ∈ p.terms, numOk t.val.num) → Brk r → andP (pMany 62 pPat n (wds (txPs ps ++ (lineB ++ (thenB ++ r))) k)) (fun vs l4 => andP (takeW 62 l4) fun _ l5 => .ok (vs, l5)) = .ok (ps, wds r (k + (txPs ps).length + 5))
  | [], n, r, k, _, _, hr => by
    show andP (pMany 62 pPat n (wds (lineB ++ (thenB ++ r)) k)) _ = _
    obtain ⟨x, h1, h2, _, _⟩ := Tok.to.next r (k + 3) hr
    obtain ⟨y, q1, _, _, _⟩ := Tok.to.take r (k + 3) hr
    rw [wdsLine]
    change nextW (wds (thenB ++ r) (k + 3)) = _ at h1
    change takeW 62 (wds (thenB ++ r) (k + 3)) = _ at q1
    rw [pMany_end h1 h2, andP_ok, q1, andP_ok]
    rfl
  | p :: ps, n, r, k, hl, hp, hr => by
    obtain ⟨m, rfl⟩ : ∃ m, n = m + 1 := ⟨n - 1, by simp at hl; omega⟩
    obtain ⟨g1, g2⟩ := hp p (by simp)
    have e : txPs (p :: ps) ++ (lineB ++ (thenB ++ r)) = lineB ++ (txP p ++ (txPs ps ++ (lineB ++ (thenB ++ r)))) := by simp [txPs]
    have el : (txPs (p :: ps)).length = 3 + (txP p).length + (txPs ps).length := by simp [txPs, lineB]; omega
    have hpb := pat_back g1 g2 (txPs ps ++ (lineB ++ (thenB ++ r))) (k + 3)
    have ho : ∃ s, txP p ++ (txPs ps ++ (lineB ++ (thenB ++ r))) = 40 :: s := ⟨_, rfl⟩
    obtain ⟨s, hs⟩ := ho
    rw [e, el, wdsLine]
    rw [hs] at hpb ⊢
    rw [take_open, andP_ok] at hpb
    have hst := pMany_step (M := []) (k := 62) (rd := pPat) (n := m) (next_open s (k + 3)) (show (40 : Int) ≠ 62 by decide) (take_open s (k + 3)) hpb
    have h1 : pMany 62 pPat (m + 1) (wds (40 :: s) (k + 3)) = preL [p] (pMany 62 pPat m (wds (txPs ps ++ (lineB ++ (thenB ++ r))) (k + 3 + (txP p).length))) := by
      cases hq : pMany 62 pPat (m + 1) (wds (40 :: s) (k + 3)) with
      | error f => rw [hq] at hst; exact hst
      | ok q => rw [hq] at hst; simpa [preL] using hst
    rw [h1]
    have ih := pats_back ps m r (k + 3 + (txP p).length) (by simp at hl; omega) (fun u hu => hp u (by simp [hu])) hr
    cases hq : pMany 62 pPat m (wds (txPs ps ++ (lineB ++ (thenB ++ r))) (k + 3 + (txP p).length)) with
    | error f => rw [hq] at ih; cases ih
    | ok q =>
      obtain ⟨vs, l4⟩ := q
      rw [hq, andP_ok] at ih
      show andP (takeW 62 l4) (fun _ l5 => .ok ([p] ++ vs, l5)) = _
      cases ht : takeW 62 l4 with
      | error f => rw [ht] at ih; cases ih
      | ok z =>
        obtain ⟨x, l5⟩ := z
        rw [ht, andP_ok] at ih
        injection ih with ih
        injection ih with i1 i2
        rw [andP_ok, i1, i2]
        congr 3
        omega
end Go.Proofs.YtgkoiojelckblaaGreatDoor

namespace Go.Proofs.YtgkoiojelckblaaGreatDoor

theorem bound_ok {n : Nat} {l l1 : List Wd} {x : Wd} (hn : n < 60) (h : nextW l = .ok (x, l1)) : boundW (n : Int) 60 l = .ok ((), l) := by
  unfold boundW
  rw [h]
  simp only
  rw [if_neg (fun e => by have := e.1; omega)]
theorem leaf_eq {e : Ex} (h : leafOk e = true) : e.op = 0 ∧ e.a = 0 ∧ e.b = 0 := by
  unfold leafOk at h
  simpa using h
theorem expr_back {es : List Ex} {S : List Sp} (hT : ExT es S) : ∀ (i a dep : Nat), S[i]? = some (a, dep) → a ≤ i ∧ ∀ (n f d : Nat) (r : Bs) (k : Nat), dep < n → dep ≤ f → i + 1 + d ≤ 60 → Brk r →
    pExpr f (es.take a, a + d) (wds (txE n es i ++ r) k) = .ok (((i : Int), (es.take (i + 1), i + 1 + d)), wds r (k + (txE n es i).length)) := by
  intro i
  induction i using Nat.strongRecOn with
  | _ i ih =>
    intro a dep hs
    obtain ⟨hl, hSp, hSl, hnum⟩ := hT
    have hi : i < S.length := (List.getElem?_eq_some_iff.1 hs).1
    obtain ⟨e, he⟩ : ∃ e, es[i]? = some e := ⟨es[i]'(by omega), by simp [show i < es.length by omega]⟩
    have hsp := hSp.2 i _ e hs he
    have hlen : (S.take i).length = i := by rw [List.length_take]; omega
    have hel : (es.take i).length = i := by rw [List.length_take]; omega
    have htk := take_succ' es i e he
    have hne := hnum e (List.mem_of_getElem? he)
    unfold spanOf at hsp
    by_cases k0 : e.kind = 0
    · simp [k0] at hsp
      obtain ⟨⟨h1, h2, h3⟩, h4, h5⟩ := hsp
      have ha : a = i := by omega
      have hd : dep = 0 := h5.symm
      subst ha
      refine ⟨Nat.le_refl _, fun n f d r k hn hf hb hr => ?_⟩
      obtain ⟨n, rfl⟩ : ∃ m, n = m + 1 := ⟨n - 1, by omega⟩
      rw [txE_one n es a e he, if_neg (by omega), if_neg (by omega), htk]
      obtain ⟨l1, l2, l3⟩ := leaf_eq h1
      have hE : ∀ v, e.val = v → e = ⟨0, 0, mkS [], v, 0, 0⟩ := fun v hv => by
        obtain ⟨c0, c1, c2, c3, c4, c5⟩ := e
        simp only at k0 l1 l2 l3 h2 hv
        rw [k0, l1, isE_eq h2, l2, l3, hv]
      rcases Tok.val h3 hne with ⟨t1, t2⟩ | ⟨t1, t2⟩
      · obtain ⟨x, q1, q2, q3, q4⟩ := t1.next r k hr
        rw [pExpr_const (bound_ok (n := a + d) (by omega) q1) q1 (.inl q2), q2, q3, q4, hel, ← hE _ t2]
        congr 4
        omega
      · obtain ⟨x, q1, q2, q3, q4⟩ := t1.next r k hr
        rw [pExpr_const (bound_ok (n := a + d) (by omega) q1) q1 (.inr q2), q2, q3, q4, hel, ← hE _ t2]
        congr 4
        omega
    by_cases k1 : e.kind = 1
    · simp [k1] at hsp
      obtain ⟨⟨h1, h2, h3⟩, h4, h5⟩ := hsp
      have ha : a = i := by omega
      have hd : dep = 0 := h5.symm
      subst ha
      refine ⟨Nat.le_refl _, fun n f d r k hn hf hb hr => ?_⟩
      obtain ⟨n, rfl⟩ : ∃ m, n = m + 1 := ⟨n - 1, by omega⟩
      rw [txE_one n es a e he, if_pos k1, htk]
      obtain ⟨l1, l2, l3⟩ := leaf_eq h1
      have hE : e = ⟨1, 0, mkS (bsOf e.var), zVr, 0, 0⟩ := by
        obtain ⟨c0, c1, c2, c3, c4, c5⟩ := e
        simp only at k1 l1 l2 l3 h3 ⊢
        rw [k1, l1, mkS_bs, l2, l3, zeroV_eq h3]
      obtain ⟨x, q1, q2, q3, q4⟩ := (Tok.var (s := bsOf e.var) h2).next r k hr
      rw [pExpr_var (bound_ok (n := a + d) (by omega) q1) q1 q2, q3, hel, ← hE]
      congr 4
      omega
    by_cases k2 : e.kind = 2
    · simp [k2] at hsp
      obtain ⟨h1, h2⟩ := hsp
      unfold opOk at h1
      simp [hlen] at h1
      obtain ⟨o1, o2, o3, o4, o5, o6⟩ := h1
      unfold spanAB at h2
      cases hsb : (S.take i)[e.b.toNat]? with
      | none => simp [hsb] at h2
      | some sb =>
        cases hsa : (S.take i)[e.a.toNat]? with
        | none => simp [hsb, hsa] at h2
        | some sa =>
          simp [hsb, hsa] at h2
          obtain ⟨⟨h3, h4⟩, h5, h6⟩ := h2
          obtain ⟨ia, hia⟩ : ∃ x : Nat, e.a = (x : Int) := ⟨e.a.toNat, by omega⟩
          obtain ⟨ib, hib⟩ : ∃ x : Nat, e.b = (x : Int) := ⟨e.b.toNat, by omega⟩
          rw [hia, Int.toNat_natCast] at hsa
          rw [hib, Int.toNat_natCast] at hsb
          have hbi : ib + 1 = i := by omega
          have hal : ia < i := by
            have := (List.getElem?_eq_some_iff.1 hsa).1
            omega
          rw [List.getElem?_take, if_pos (by omega)] at hsa hsb
          obtain ⟨a1, d1⟩ := sa
          obtain ⟨a2, d2⟩ := sb
          simp only at h3 h4 h5 h6
          have hba : a2 = ia + 1 := by omega
          obtain ⟨ra, iha⟩ := ih ia (by omega) a1 d1 hsa
          obtain ⟨rb, ihb⟩ := ih ib (by omega) a2 d2 hsb
          subst h5
          refine ⟨by omega, fun n f d r k hn hf hb hr => ?_⟩
          obtain ⟨n, rfl⟩ : ∃ m, n = m + 1 := ⟨n - 1, by omega⟩
          obtain ⟨f, rfl⟩ : ∃ m, f = m + 1 := ⟨f - 1, by omega⟩
          have hm1 : d1 ≤ max d1 d2 := Nat.le_max_left _ _
          have hm2 : d2 ≤ max d1 d2 := Nat.le_max_right _ _
          obtain ⟨tk, tv⟩ := Tok.ar o1
          rw [txE_one n es i e he, if_neg (by omega), if_pos k2, hia, hib, Int.toNat_natCast, Int.toNat_natCast]
          have ex : (40 :: UInt8.ofNat e.op.toNat :: 32 :: (txE n es ia ++ 32 :: (txE n es ib ++ [41]))) ++ r = 40 :: ([UInt8.ofNat e.op.toNat] ++ (32 :: (txE n es ia ++ (32 :: (txE n es ib ++ (41 :: r)))))) := by simp
          have el : (40 :: UInt8.ofNat e.op.toNat :: 32 :: (txE n es ia ++ 32 :: (txE n es ib ++ [41]))).length = 3 + (txE n es ia).length + 1 + (txE n es ib).length + 1 := by simp; omega
          rw [ex, el, pExpr_op (bound_ok (n := a1 + d) (by omega) (next_open _ k)) (next_open _ k) rfl]
          unfold pOp
          obtain ⟨o, q1, q2, q3, q4⟩ := tk.take (32 :: (txE n es ia ++ (32 :: (txE n es ib ++ (41 :: r))))) (k + 1) (brk32 _)
          rw [q1, andP_ok, wds32]
          have r1 := iha n f (d + 1) (32 :: (txE n es ib ++ (41 :: r))) (k + 1 + [UInt8.ofNat e.op.toNat].length + 1) (by omega) (by omega) (by omega) (brk32 _)
          rw [show a1 + d + 1 = a1 + (d + 1) by omega, r1, andP_ok, wds32]
          have r2 := ihb n f (d + 1) (41 :: r) (k + 1 + [UInt8.ofNat e.op.toNat].length + 1 + (txE n es ia).length + 1) (by omega) (by omega) (by omega) (brk41 _)
          rw [hba] at r2
          simp only
          rw [r2, andP_ok, take_close, andP_ok, andP_ok, q3]
          have hE : e = ⟨2, ((([UInt8.ofNat e.op.toNat] : Bs).headD 0).toNat : Int), mkS [], zVr, (ia : Int), (ib : Int)⟩ := by
            obtain ⟨c0, c1, c2, c3, c4, c5⟩ := e
            simp only at k2 o2 o3 hia hib tv ⊢
            rw [k2, isE_eq o2, zeroV_eq o3, hia, hib]
            congr 1
            exact tv.symm
          simp only
          rw [← hE, hbi, ← htk, hel]
          refine congrArg Except.ok (Prod.ext (Prod.ext rfl (Prod.ext rfl ?_)) (congrArg (wds r) ?_))
          · show i + (d + 1) = i + 1 + d
            omega
          · show k + 1 + [UInt8.ofNat e.op.toNat].length + 1 + (txE n es ia).length + 1 + (txE n es ib).length + 1 = _
            simp
            omega
    · simp [k0, k1, k2] at hsp
theorem expr_first {f : Nat} {s : ES} {l l1 : List Wd} {q : Int × ES} (h : pExpr f s l = .ok (q, l1)) : ∃ x r, nextW l = .ok (x, r) ∧ pkW x ≠ 41 := by
  cases hb : boundW (s.2 : Int) 60 l with
  | error e => rw [pExpr_bad hb] at h; cases h
  | ok u =>
    cases hr : nextW l with
    | error e => rw [pExpr_next hb hr] at h; cases h
    | ok p =>
      obtain ⟨x, r⟩ := p
      refine ⟨x, r, rfl, fun e => ?_⟩
      rw [pExpr_else hb hr (by rw [e]; decide) (by rw [e]; decide) (by rw [e]; decide)] at h
      cases h
theorem spans_deep {es : List Ex} {S : List Sp} (hT : ExT es S) {i : Nat} {s : Sp} (h : S[i]? = some s) : s.2 ≤ 20 := by
  obtain ⟨hl, hSp, hSl, hnum⟩ := hT
  have hi : i < S.length := (List.getElem?_eq_some_iff.1 h).1
  obtain ⟨e, he⟩ : ∃ e, es[i]? = some e := ⟨es[i]'(by omega), by simp [show i < es.length by omega]⟩
  have hsp := hSp.2 i _ e h he
  unfold spanOf at hsp
  split at hsp
  · split at hsp
    · injection hsp with hsp
      rw [← hsp]
      simp
    · cases hsp
  · split at hsp
    · split at hsp
      · injection hsp with hsp
        rw [← hsp]
        simp
      · cases hsp
    · split at hsp
      · split at hsp
        · unfold spanAB at hsp
          split at hsp
          · split at hsp
            · rename_i hc
              injection hsp with hsp
              rw [← hsp]
              simp at hc ⊢
              omega
            · cases hsp
          · cases hsp
        · cases hsp
      · cases hsp
theorem args_back {es : List Ex} {S : List Sp} (hT : ExT es S) : ∀ (xs : List Int) (n nx nx' : Nat) (r : Bs) (k : Nat), xs.length ≤ n → argsGo S xs nx = some nx' →
    pListE (pExpr 20) n (es.take nx, nx) (wds (txArgs es xs ++ 41 :: r) k) = .ok ((xs, (es.take nx', nx')), wds r (k + (txArgs es xs).length + 1))
  | [], n, nx, nx', r, k, _, h => by
    unfold argsGo at h
    injection h with h
    subst h
    show pListE (pExpr 20) n (es.take nx, nx) (wds (41 :: r) k) = _
    cases n <;> (unfold pListE; rw [next_close]; rfl)
  | x :: xs, n, nx, nx', r, k, hl, h => by
    obtain ⟨m, rfl⟩ : ∃ m, n = m + 1 := ⟨n - 1, by simp at hl; omega⟩
    unfold argsGo at h
    split at h
    · rename_i hc
      simp at hc
      obtain ⟨h0, h1, h2⟩ := hc
      obtain ⟨i, rfl⟩ : ∃ i : Nat, x = (i : Int) := ⟨x.toNat, by omega⟩
      rw [Int.toNat_natCast] at h h2
      have hi : i < S.length := by omega
      have hsl := hT.2.2.1
      have h60 := hT.1
      obtain ⟨⟨a, dep⟩, hs⟩ : ∃ s, S[i]? = some s := ⟨S[i], by simp [hi]⟩
      rw [hs] at h2
      simp at h2
      subst h2
      have e : txArgs es ((i : Int) :: xs) ++ 41 :: r = 32 :: (txE 60 es i ++ (txArgs es xs ++ 41 :: r)) := by simp [txArgs]
      have el : (txArgs es ((i : Int) :: xs)).length = 1 + (txE 60 es i).length + (txArgs es xs).length := by simp [txArgs]; omega
      have hb : Brk (txArgs es xs ++ 41 :: r) := by
        cases xs with
        | nil => exact brk41 r
        | cons u us => exact Brk.cons _ (by decide)
      have hdp := spans_deep hT hs
      have h1 := (expr_back hT i a dep hs).2 60 20 0 (txArgs es xs ++ 41 :: r) (k + 1) (by simp at hdp; omega) hdp (by omega) hb
      obtain ⟨x, q, hx, hne⟩ := expr_first h1
      rw [e, el, wds32]
      unfold pListE
      rw [hx]
      simp only [if_neg hne]
      rw [Nat.add_zero] at h1
      rw [h1]
      simp only [Nat.add_zero]
      rw [args_back hT xs m (i + 1) nx' r _ (by simp at hl; omega) h]
      simp only
      congr 3
      omega
    · cases h
end Go.Proofs.YtgkoiojelckblaaGreatDoor

namespace Go.Proofs.YtgkoiojelckblaaGreatDoor

theorem kOk_ref {k : Int} (h : kOk k = true) : refOf k = k ∧ numOk k := by
  unfold kOk at h
  simp at h
  refine ⟨?_, by unfold numOk; omega⟩
  unfold refOf
  rw [if_neg (by omega)]
theorem gAc_some {S : List Sp} {a : Ac} {nx nx' : Nat} (h : gAc S a nx = some nx') : fieldsOk a = true ∧ a.args.length ≤ 6 ∧ argsGo S a.args nx = some nx' := by
  unfold gAc at h
  split at h
  · rename_i hc
    simp only [Bool.and_eq_true, decide_eq_true_eq] at hc
    exact ⟨hc.1, hc.2, h⟩
  · cases h
theorem brkArgs (es : List Ex) (xs : List Int) (r : Bs) : Brk (txArgs es xs ++ 41 :: r) := by
  cases xs with
  | nil => exact brk41 r
  | cons u us => exact Brk.cons _ (by decide)
theorem act_back {es : List Ex} {S : List Sp} (hT : ExT es S) {a : Ac} {nx nx' : Nat} (h : gAc S a nx = some nx') (r : Bs) (k : Nat) : andP (takeW 40 (wds (txA es a ++ r) k)) (fun _ l1 => pAct (es.take nx, nx) l1) = .ok ((a, (es.take nx', nx')), wds r (k + (txA es a).length)) := by
  obtain ⟨hf, hl, hg⟩ := gAc_some h
  obtain ⟨kd, ak, cls, args⟩ := a
  unfold fieldsOk at hf
  simp only at hf hl hg
  have e : txA es ⟨kd, ak, cls, args⟩ ++ r = 40 :: (txHead ⟨kd, ak, cls, args⟩ ++ (txArgs es args ++ 41 :: r)) := by simp [txA]
  have el : (txA es ⟨kd, ak, cls, args⟩).length = 1 + (txHead ⟨kd, ak, cls, args⟩).length + (txArgs es args).length + 1 := by simp [txA]; omega
  rw [e, el, take_open, andP_ok]
  have ha := args_back hT args 6 nx nx' r
  by_cases k1 : kd = 1
  · subst k1
    simp at hf
    obtain ⟨h1, rfl⟩ := hf
    obtain ⟨hs, hne⟩ := gCls_sym h1
    have eh : txHead ⟨1, 0, cls, args⟩ ++ (txArgs es args ++ 41 :: r) = addB ++ (32 :: (bsOf cls ++ (txArgs es args ++ 41 :: r))) := by simp [txHead]
    have ehl : (txHead ⟨1, 0, cls, args⟩).length = addB.length + 1 + (bsOf cls).length := by simp [txHead]; omega
    rw [eh, ehl]
    obtain ⟨x, q1, q2, q3, q4⟩ := (Tok.sym (t := addB) (by decide)).take (32 :: (bsOf cls ++ (txArgs es args ++ 41 :: r))) (k + 1) (brk32 _)
    obtain ⟨y, p1, p2, p3, p4⟩ := (Tok.sym hs).take (txArgs es args ++ 41 :: r) (k + 1 + addB.length + 1) (brkArgs es args r)
    unfold pAct
    rw [q1, andP_ok, q3, if_neg (by decide), if_neg (by decide), if_neg (by decide), if_pos (show addB = addT from rfl), wds32]
    unfold aAdd pClass
    rw [p1]
    simp only [p3, if_neg hne, andP_ok]
    rw [ha _ hl hg, andP_ok, mkS_bs]
    refine congrArg Except.ok (Prod.ext rfl (congrArg (wds r) ?_))
    omega
  by_cases k2 : kd = 2
  · subst k2
    simp at hf
    obtain ⟨⟨h1, h2⟩, rfl⟩ := hf
    obtain rfl := isE_eq h1
    obtain ⟨r1, r2⟩ := kOk_ref h2
    unfold argsGo at hg
    injection hg with hg
    subst hg
    have eh : txHead ⟨2, ak, mkS [], []⟩ ++ (txArgs es [] ++ 41 :: r) = dropB ++ (32 :: (Lib.itoa ak ++ (41 :: r))) := by simp [txHead, txArgs]
    have ehl : (txHead ⟨2, ak, mkS [], []⟩).length = dropB.length + 1 + (Lib.itoa ak).length := by simp [txHead]; omega
    rw [eh, ehl]
    obtain ⟨x, q1, q2, q3, q4⟩ := (Tok.sym (t := dropB) (by decide)).take (32 :: (Lib.itoa ak ++ (41 :: r))) (k + 1) (brk32 _)
    obtain ⟨y, p1, p2, p3, p4⟩ := (Tok.num r2).take (41 :: r) (k + 1 + dropB.length + 1) (brk41 _)
    unfold pAct
    rw [q1, andP_ok, q3, if_neg (by decide), if_neg (by decide), if_pos (show dropB = dropT from rfl), wds32]
    unfold aDrop pRef
    rw [p1, andP_ok, andP_ok, take_close, andP_ok, p4, r1]
    refine congrArg Except.ok (Prod.ext rfl (congrArg (wds r) ?_))
    show _ = k + (1 + (dropB.length + 1 + (Lib.itoa ak).length) + 0 + 1)
    omega
  by_cases k3 : kd = 3
  · subst k3
    simp at hf
    obtain ⟨h1, h2⟩ := hf
    obtain rfl := isE_eq h1
    obtain ⟨r1, r2⟩ := kOk_ref h2
    have eh : txHead ⟨3, ak, mkS [], args⟩ ++ (txArgs es args ++ 41 :: r) = modB ++ (32 :: (Lib.itoa ak ++ (txArgs es args ++ 41 :: r))) := by simp [txHead]
    have ehl : (txHead ⟨3, ak, mkS [], args⟩).length = modB.length + 1 + (Lib.itoa ak).length := by simp [txHead]; omega
    rw [eh, ehl]
    obtain ⟨x, q1, q2, q3, q4⟩ := (Tok.sym (t := modB) (by decide)).take (32 :: (Lib.itoa ak ++ (txArgs es args ++ 41 :: r))) (k + 1) (brk32 _)
    obtain ⟨y, p1, p2, p3, p4⟩ := (Tok.num r2).take (txArgs es args ++ 41 :: r) (k + 1 + modB.length + 1) (brkArgs es args r)
    unfold pAct
    rw [q1, andP_ok, q3, if_neg (by decide), if_pos (show modB = modT from rfl), wds32]
    unfold aMod pRef
    rw [p1, andP_ok, andP_ok, ha _ hl hg, andP_ok, p4, r1]
    refine congrArg Except.ok (Prod.ext rfl (congrArg (wds r) ?_))
    omega
  by_cases k4 : kd = 4
  · subst k4
    simp at hf
    obtain ⟨h1, rfl, rfl⟩ := hf
    obtain rfl := isE_eq h1
    unfold argsGo at hg
    injection hg with hg
    subst hg
    have eh : txHead ⟨4, 0, mkS [], []⟩ ++ (txArgs es [] ++ 41 :: r) = haltB ++ (41 :: r) := by simp [txHead, txArgs]
    have ehl : (txHead ⟨4, 0, mkS [], []⟩).length = haltB.length := by simp [txHead]
    rw [eh, ehl]
    obtain ⟨x, q1, q2, q3, q4⟩ := (Tok.sym (t := haltB) (by decide)).take (41 :: r) (k + 1) (brk41 _)
    unfold pAct
    rw [q1, andP_ok, q3, if_pos (show haltB = haltT from rfl)]
    unfold aHalt
    rw [take_close, andP_ok]
    refine congrArg Except.ok (Prod.ext rfl (congrArg (wds r) ?_))
    show _ = k + (1 + haltB.length + 0 + 1)
    omega
  · simp [k1, k2, k3, k4] at hf
theorem acts_back {es : List Ex} {S : List Sp} (hT : ExT es S) : ∀ (l : List Ac) (n nx j : Nat) (r : Bs) (k : Nat), l.length ≤ n → actsGo S l nx j = none →
    andP (pManyS 41 pAct n (es.take nx, nx) (wds (txAs es l ++ 41 :: r) k)) (fun q l6 => andP (takeW 41 l6) fun _ l7 => .ok (q, l7)) = .ok ((l, (es, es.length)), wds r (k + (txAs es l).length + 1))
  | [], n, nx, j, r, k, _, h => by
    unfold actsGo at h
    split at h
    · rename_i hn
      subst hn
      show andP (pManyS 41 pAct n _ (wds (41 :: r) k)) _ = _
      rw [pManyS_end (k := 41) (next_close r k) rfl, andP_ok, take_close, andP_ok, hT.2.2.1, List.take_of_length_le (Nat.le_refl _)]
      rfl
    · cases h
  | a :: l, n, nx, j, r, k, hl, h => by
    obtain ⟨m, rfl⟩ : ∃ m, n = m + 1 := ⟨n - 1, by simp at hl; omega⟩
    unfold actsGo at h
    cases hg : gAc S a nx with
    | none => rw [hg] at h; cases h
    | some nx' =>
      rw [hg] at h
      simp only at h
      have e : txAs es (a :: l) ++ 41 :: r = lineB ++ (txA es a ++ (txAs es l ++ 41 :: r)) := by simp [txAs]
      have el : (txAs es (a :: l)).length = 3 + (txA es a).length + (txAs es l).length := by simp [txAs, lineB]; omega
      have hab := act_back hT hg (txAs es l ++ 41 :: r) (k + 3)
      obtain ⟨s, hs⟩ : ∃ s, txA es a ++ (txAs es l ++ 41 :: r) = 40 :: s := ⟨_, rfl⟩
      rw [e, el, wdsLine]
      rw [hs] at hab ⊢
      rw [take_open, andP_ok] at hab
      have hst := pManyS_step (M := []) (k := 41) (rd := pAct) (n := m) (next_open s (k + 3)) (show (40 : Int) ≠ 41 by decide) (take_open s (k + 3)) hab
      have h1 : pManyS 41 pAct (m + 1) (es.take nx, nx) (wds (40 :: s) (k + 3)) = preE [a] (pManyS 41 pAct m (es.take nx', nx') (wds (txAs es l ++ 41 :: r) (k + 3 + (txA es a).length))) := by
        cases hq : pManyS 41 pAct (m + 1) (es.take nx, nx) (wds (40 :: s) (k + 3)) with
        | error f => rw [hq] at hst; exact hst
        | ok q => rw [hq] at hst; simpa [preE] using hst
      rw [h1]
      have ih := acts_back hT l m nx' (j + 1) r (k + 3 + (txA es a).length) (by simp at hl; omega) h
      cases hq : pManyS 41 pAct m (es.take nx', nx') (wds (txAs es l ++ 41 :: r) (k + 3 + (txA es a).length)) with
      | error f => rw [hq] at ih; cases ih
      | ok q =>
        obtain ⟨⟨vs, s2⟩, l6⟩ := q
        rw [hq, andP_ok] at ih
        show andP (takeW 41 l6) (fun _ l7 => .ok (([a] ++ vs, s2), l7)) = _
        cases ht : takeW 41 l6 with
        | error f => rw [ht] at ih; cases ih
        | ok z =>
          obtain ⟨x, l7⟩ := z
          rw [ht, andP_ok] at ih
          injection ih with ih
          injection ih with i1 i2
          injection i1 with i1 i3
          rw [andP_ok, i1, i2, i3]
          refine congrArg Except.ok (Prod.ext rfl (congrArg (wds r) ?_))
          omega
theorem shape_all {r : Ru} (h : shape r = none) : headOk r = true ∧ (∀ p ∈ r.pats, gPt p = true) ∧ Spans r.exprs (spansGo [] r.exprs) ∧ (spansGo [] r.exprs).length = r.exprs.length ∧ actsGo (spansGo [] r.exprs) r.acts 0 1 = none := by
  obtain ⟨hp6, hpt⟩ := shape_pats h
  unfold shape at h
  split at h
  · rename_i hh
    split at h
    · cases h
    · split at h
      · cases h
      · rename_i hlt
        have hS := (spansGo_spans (es := r.exprs) (l := r.exprs) (Spans.nil _) rfl).1
        exact ⟨hh, hpt, hS, by have := hS.1; omega, h⟩
  · cases h
theorem rule_back {ru : Ru} (h : shape ru = none) (hn : RuN ru) (u : Bs) (k : Nat) : andP (takeW 40 (wds (txR ru ++ u) k)) (fun _ l1 => pRule l1) = .ok (ru, wds u (k + (txR ru).length)) := by
  obtain ⟨hh, hpt, hS, hfull, hacts⟩ := shape_all h
  obtain ⟨n1, n2, n3⟩ := hn
  obtain ⟨nm, sl, ps, es, as'⟩ := ru
  simp only [headOk, Bool.and_eq_true, decide_eq_true_eq] at hh
  obtain ⟨hs, hp, ha, he⟩ := hh
  simp only at hs hp ha he hpt hS hfull hacts n1 n2 n3
  have hT : ExT es (spansGo [] es) := ⟨he, hS, hfull, n3⟩
  have e : txR ⟨nm, sl, ps, es, as'⟩ ++ u = 40 :: (ruleT ++ (32 :: (bsOf nm ++ (32 :: (Lib.itoa sl ++ (txPs ps ++ (lineB ++ (thenB ++ (txAs es as' ++ 41 :: (10 :: u)))))))))) := by
    simp [txR, txHd, ruleB, ruleT]
  have el : (txR ⟨nm, sl, ps, es, as'⟩).length = 1 + ruleT.length + 1 + (bsOf nm).length + 1 + (Lib.itoa sl).length + (txPs ps).length + 5 + (txAs es as').length + 1 + 1 := by
    simp [txR, txHd, ruleB, ruleT, lineB, thenB]
    omega
  rw [e, el, take_open, andP_ok]
  have hbp : Brk (txPs ps ++ (lineB ++ (thenB ++ (txAs es as' ++ 41 :: (10 :: u))))) := by
    cases ps with
    | nil => exact Brk.cons _ (by decide)
    | cons x xs => exact Brk.cons _ (by decide)
  have hba : Brk (txAs es as' ++ 41 :: (10 :: u)) := by
    cases as' with
    | nil => exact brk41 _
    | cons x xs => exact Brk.cons _ (by decide)
  obtain ⟨x, q1, q2, q3, q4⟩ := (Tok.sym (t := ruleT) (by decide)).take (32 :: (bsOf nm ++ (32 :: (Lib.itoa sl ++ (txPs ps ++ (lineB ++ (thenB ++ (txAs es as' ++ 41 :: (10 :: u))))))))) (k + 1) (brk32 _)
  obtain ⟨y, p1, p2, p3, p4⟩ := (Tok.sym (t := bsOf nm) hs).take (32 :: (Lib.itoa sl ++ (txPs ps ++ (lineB ++ (thenB ++ (txAs es as' ++ 41 :: (10 :: u))))))) (k + 1 + ruleT.length + 1) (brk32 _)
  obtain ⟨z, r1, r2, r3, r4⟩ := (Tok.num n1).take (txPs ps ++ (lineB ++ (thenB ++ (txAs es as' ++ 41 :: (10 :: u))))) (k + 1 + ruleT.length + 1 + (bsOf nm).length + 1) hbp
  have hps := pats_back ps 6 (txAs es as' ++ 41 :: (10 :: u)) (k + 1 + ruleT.length + 1 + (bsOf nm).length + 1 + (Lib.itoa sl).length) hp (fun p hp => ⟨hpt p hp, n2 p hp⟩) hba
  have has := acts_back hT as' 8 0 1 (10 :: u) (k + 1 + ruleT.length + 1 + (bsOf nm).length + 1 + (Lib.itoa sl).length + (txPs ps).length + 5) ha hacts
  unfold pRule
  rw [q1, andP_ok, q3, if_pos rfl, wds32, p1, andP_ok, wds32, r1, andP_ok]
  cases hq : pMany 62 pPat 6 (wds (txPs ps ++ (lineB ++ (thenB ++ (txAs es as' ++ 41 :: (10 :: u))))) (k + 1 + ruleT.length + 1 + (bsOf nm).length + 1 + (Lib.itoa sl).length)) with
  | error f => rw [hq] at hps; cases hps
  | ok q =>
    obtain ⟨vs, l4⟩ := q
    rw [hq, andP_ok] at hps
    rw [andP_ok]
    cases ht : takeW 62 l4 with
    | error f => rw [ht] at hps; cases hps
    | ok z =>
      obtain ⟨x4, l5⟩ := z
      rw [ht, andP_ok] at hps
      injection hps with hps
      injection hps with i1 i2
      subst i1
      subst i2
      rw [andP_ok]
      rw [List.take_zero] at has
      cases hw : pManyS 41 pAct 8 ([], 0) (wds (txAs es as' ++ 41 :: (10 :: u)) (k + 1 + ruleT.length + 1 + (bsOf nm).length + 1 + (Lib.itoa sl).length + (txPs vs).length + 5)) with
      | error f => rw [hw] at has; cases has
      | ok q =>
        obtain ⟨⟨ws, s2⟩, l6⟩ := q
        rw [hw, andP_ok] at has
        rw [andP_ok]
        cases hv : takeW 41 l6 with
        | error f => rw [hv] at has; cases has
        | ok z =>
          obtain ⟨x6, l7⟩ := z
          rw [hv, andP_ok] at has
          injection has with has
          injection has with j1 j2
          injection j1 with j1 j3
          subst j1
          subst j2
          subst j3
          rw [andP_ok, p3, r4, mkS_bs, wds10]
          refine congrArg Except.ok (Prod.ext rfl (congrArg (wds u) ?_))
          omega
theorem rules_back : ∀ (rs : List Ru) (n : Nat) (u : Bs) (k : Nat), rs.length ≤ n → (∀ r ∈ rs, shape r = none ∧ RuN r) → pMany 0 pRule n (wds (txRs rs ++ u) k) = preL rs (pMany 0 pRule (n - rs.length) (wds u (k + (txRs rs).length)))
  | [], n, u, k, _, _ => by
    show pMany 0 pRule n (wds u k) = preL [] (pMany 0 pRule n (wds u k))
    unfold preL
    cases pMany 0 pRule n (wds u k) <;> rfl
  | r :: rs, n, u, k, hl, hr => by
    obtain ⟨m, rfl⟩ : ∃ m, n = m + 1 := ⟨n - 1, by simp at hl; omega⟩
    obtain ⟨g1, g2⟩ := hr r (by simp)
    have e : txRs (r :: rs) ++ u = txR r ++ (txRs rs ++ u) := by simp [txRs]
    have el : (txRs (r :: rs)).length = (txR r).length + (txRs rs).length := by simp [txRs]
    have hrb := rule_back g1 g2 (txRs rs ++ u) k
    obtain ⟨s, hs⟩ : ∃ s, txR r ++ (txRs rs ++ u) = 40 :: s := ⟨_, rfl⟩
    rw [e, el, hs]
    rw [hs, take_open, andP_ok] at hrb
    have hst := pMany_step (M := []) (k := 0) (rd := pRule) (n := m) (next_open s k) (show (40 : Int) ≠ 0 by decide) (take_open s k) hrb
    have h1 : pMany 0 pRule (m + 1) (wds (40 :: s) k) = preL [r] (pMany 0 pRule m (wds (txRs rs ++ u) (k + (txR r).length))) := by
      cases hq : pMany 0 pRule (m + 1) (wds (40 :: s) k) with
      | error f => rw [hq] at hst; exact hst
      | ok q => rw [hq] at hst; simpa [preL] using hst
    rw [h1, rules_back rs m u _ (by simp at hl; omega) (fun x hx => hr x (by simp [hx]))]
    have ec : m + 1 - (r :: rs).length = m - rs.length := by simp
    rw [ec, Nat.add_assoc]
    cases pMany 0 pRule (m - rs.length) (wds u (k + ((txR r).length + (txRs rs).length))) with
    | error f => rfl
    | ok q => simp [preL]
/-- Behind checked rules a ')' is told, at its place. -/
theorem garbage_back {rs : List Ru} (h : (chk rs).1 = 0) (hn : ∀ r ∈ rs, RuN r) (more : Bs) (hl : (txRs rs ++ 41 :: more).length ≤ 20000) : prR (txRs rs ++ 41 :: more) = .error (3, (txRs rs).length) := by
  obtain ⟨h1, h2⟩ := chk_each h
  unfold prR pRules
  rw [if_neg (by omega), wordsOf_wds, rules_back rs 16 (41 :: more) 0 h1 (fun r hr => ⟨(h2 r hr).1, hn r hr⟩), Nat.zero_add]
  have hx := next_close more (txRs rs).length
  have hm : ∀ n, pMany 0 pRule n (wds (41 :: more) (txRs rs).length) = .error (3, (txRs rs).length) := fun n => by
    cases n with
    | zero => simp [pMany, hx, pkW]
    | succ n => simp [pMany, hx, pkW, takeW]
  rw [hm]
  rfl
theorem txE_lin {es : List Ex} {S : List Sp} (hT : ExT es S) : ∀ (i a dep : Nat), S[i]? = some (a, dep) → ∀ n, (txE n es i).length ≤ 24 * (i + 1 - a) := by
  intro i
  induction i using Nat.strongRecOn with
  | _ i ih =>
    intro a dep hs n
    have hai := (expr_back hT i a dep hs).1
    have hi : i < S.length := (List.getElem?_eq_some_iff.1 hs).1
    have hsl := hT.2.2.1
    obtain ⟨e, he⟩ : ∃ e, es[i]? = some e := ⟨es[i]'(by omega), by simp [show i < es.length by omega]⟩
    cases n with
    | zero => simp [txE]
    | succ n =>
      rw [txE_one n es i e he]
      by_cases k1 : e.kind = 1
      · rw [if_pos k1]
        rcases hT.kind he with ⟨h1, _⟩ | ⟨_, h2⟩ | ⟨h1, _⟩
        · omega
        · have := gSym_le (l := bsOf e.var) h2
          simp only [List.length_cons]
          omega
        · omega
      · rw [if_neg k1]
        by_cases k2 : e.kind = 2
        · rw [if_pos k2]
          obtain ⟨ia, ib, sa, sb, h1, h2, h3, h4, h5, h6, h7⟩ := hT.2.1.op hs he k2
          have hsp := hT.2.1.2 i _ e hs he
          rw [h1, h2, Int.toNat_natCast, Int.toNat_natCast]
          have ra := ih ia (by omega) sa.1 sa.2 h5 n
          have rb := ih ib (by omega) sb.1 sb.2 h6 n
          have qa := (expr_back hT ia sa.1 sa.2 h5).1
          have qb := (expr_back hT ib sb.1 sb.2 h6).1
          have hab : sb.1 = ia + 1 := by
            unfold spanOf at hsp
            simp [k2] at hsp
            have hsp := hsp.2
            unfold spanAB at hsp
            rw [h1, h2, Int.toNat_natCast, Int.toNat_natCast, List.getElem?_take, if_pos (by omega), List.getElem?_take, if_pos (by omega), h5, h6] at hsp
            simp at hsp
            omega
          injection h7 with h7 _
          simp only [List.length_cons, List.length_append, List.length_nil]
          omega
        · rw [if_neg k2]
          rcases hT.kind he with ⟨_, h2⟩ | ⟨h1, _⟩ | ⟨h1, _⟩
          · have := txV_le h2 (hT.2.2.2 e (List.mem_of_getElem? he))
            omega
          · omega
          · omega
theorem txArgs_lin {es : List Ex} {S : List Sp} (hT : ExT es S) : ∀ (xs : List Int) (nx nx' : Nat), argsGo S xs nx = some nx' → nx ≤ nx' ∧ (txArgs es xs).length ≤ xs.length + 24 * (nx' - nx)
  | [], nx, nx', h => by
    unfold argsGo at h
    injection h with h
    simp [txArgs, h]
  | x :: xs, nx, nx', h => by
    unfold argsGo at h
    split at h
    · rename_i hc
      simp at hc
      obtain ⟨h0, h1, h2⟩ := hc
      obtain ⟨i, rfl⟩ : ∃ i : Nat, x = (i : Int) := ⟨x.toNat, by omega⟩
      rw [Int.toNat_natCast] at h h2
      have hi : i < S.length := by omega
      obtain ⟨⟨a, dep⟩, hs⟩ : ∃ s, S[i]? = some s := ⟨S[i], by simp [hi]⟩
      rw [hs] at h2
      simp at h2
      subst h2
      have hai := (expr_back hT i a dep hs).1
      have hl := txE_lin hT i a dep hs 60
      obtain ⟨q1, q2⟩ := txArgs_lin hT xs (i + 1) nx' h
      have el : (txArgs es ((i : Int) :: xs)).length = 1 + (txE 60 es i).length + (txArgs es xs).length := by simp [txArgs]; omega
      rw [el, List.length_cons]
      omega
    · cases h
theorem txAs_lin {es : List Ex} {S : List Sp} (hT : ExT es S) : ∀ (l : List Ac) (nx j : Nat), nx ≤ S.length → actsGo S l nx j = none → (txAs es l).length ≤ 41 * l.length + 24 * (S.length - nx)
  | [], nx, j, _, _ => by simp [txAs]
  | a :: l, nx, j, hx, h => by
    unfold actsGo at h
    cases hg : gAc S a nx with
    | none => rw [hg] at h; cases h
    | some nx' =>
      rw [hg] at h
      simp only at h
      obtain ⟨hf, hl, hgo⟩ := gAc_some hg
      obtain ⟨q1, q2⟩ := txArgs_lin hT a.args nx nx' hgo
      have hat : AcT es a := ⟨hf, hl, fun v hv => by have := argsGo_in hgo v hv; rw [hT.2.2.1] at this; exact this⟩
      have hh := txHead_le hat
      have hle : nx' ≤ S.length := by
        clear h q2 hat
        revert hgo
        generalize a.args = xs
        intro hgo
        clear hl hh hf hg q1
        induction xs generalizing nx with
        | nil =>
          unfold argsGo at hgo
          injection hgo with hgo
          omega
        | cons x xs ih =>
          unfold argsGo at hgo
          split at hgo
          · rename_i hc
            simp at hc
            exact ih (x.toNat + 1) (by omega) hgo
          · cases hgo
      have q3 := txAs_lin hT l nx' (j + 1) hle h
      have el : (txAs es (a :: l)).length = 3 + (1 + (txHead a).length + (txArgs es a.args).length + 1) + (txAs es l).length := by simp [txAs, txA, lineB]; omega
      rw [el, List.length_cons]
      omega
theorem txR_lin {r : Ru} (h : shape r = none) (hn : RuN r) : (txR r).length ≤ 4000 := by
  have hT := RuT.of h hn
  obtain ⟨hh, hpt, hS, hfull, hacts⟩ := shape_all h
  simp only [headOk, Bool.and_eq_true, decide_eq_true_eq] at hh
  have h1 := txHd_le hT
  have h2 := txPs_le hT.2.2.1 hT.2.2.2.1
  have h3 := txAs_lin ⟨hh.2.2.2, hS, hfull, hn.2.2⟩ r.acts 0 1 (Nat.zero_le _) hacts
  have h4 := hh.2.2.1
  have h5 := hh.2.2.2
  have el : (txR r).length = (txHd r).length + ((txPs r.pats).length + (5 + ((txAs r.exprs r.acts).length + 2))) := by simp [txR, lineB, thenB]; omega
  rw [el]
  omega
theorem txRs_lin : ∀ (rs : List Ru), (∀ r ∈ rs, shape r = none ∧ RuN r) → (txRs rs).length ≤ 4000 * rs.length
  | [], _ => by simp [txRs]
  | r :: rs, h => by
    have h1 := txR_lin (h r (by simp)).1 (h r (by simp)).2
    have h2 := txRs_lin rs (fun x hx => h x (by simp [hx]))
    have el : (txRs (r :: rs)).length = (txR r).length + (txRs rs).length := by simp [txRs]
    rw [el, List.length_cons]
    omega
end Go.Proofs.YtgkoiojelckblaaGreatDoor

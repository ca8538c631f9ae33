/-
  OUR OWN TEXT. Mr8, Mr9, Mr10, Mr11, one behind the other.
-/
import Derived.Test.YtdhpoagjmiligaaGreatDoorKbf
import Derived.Test.YtdhpoagjmiligaaGreatDoorKba
import Derived.Deep.CutBlock
import Derived.Deep.DeepCutAuto
import Derived.Test.YtdhpoagjmiligaaGreatDoorKbd
namespace Go.Proofs.YtdhpoagjmiligaaGreatDoor
open Go.RowKit
attribute [local go_sem ↓] Go.wp_at_zero Go.wp_at_succ

theorem mexpr_all : ∀ f, MExprC f := by
  intro f
  induction f with
  | zero => exact mexpr_of 0 (fun f' e => by omega)
  | succ f ih =>
    refine mexpr_of (f + 1) (fun f' e => ?_)
    obtain rfl : f = f' := by omega
    exact ih
theorem MX.row {w : World} {B pb g : Nat} {W : List Wd} {c : Nat} {s : Ps} {nm sl pv av : Value} {es : ES} {ea : Option Addr} {ec : Nat} {bg : Int} (h : MX w B pb g W c s nm sl pv av es ea ec bg) : ∀ g, obE es ea ec = some g → ∃ c, w.heap[g]? = some (.cells c 139 (0, 0)) := fun _ hg => own_type h.ow hg
/-- One more argument. -/
theorem itemE_more {w : World} {pb g : Nat} {W : List Wd} {c : Nat} {s : Ps} {R : List Value} {n : Nat} {es : ES} (hM : MB w pb g W c s R) (hb : itemB (n : Int) 6 s = true) : n < 6 ∧ itemS (n : Int) 6 s = lookS s ∧ (∃ l, s = .ok l ∧ lookS s = .ok l) ∧ ∀ (v : Int) (es1 : ES), (∀ y l, onS (lookS s) (pExpr 20 es) = .ok (y, l) → y = (v, es1)) → ∀ M : List Int, preE M (onS s (pListE (pExpr 20) (6 - n) es)) = preE (M ++ [v]) (onS (stS (onS (lookS s) (pExpr 20 es))) (pListE (pExpr 20) (6 - (n + 1)) es1)) := by
  unfold itemB at hb
  simp only [Bool.not_eq_true', Bool.or_eq_false_iff, decide_eq_false_iff_not] at hb
  obtain ⟨h1, h2, h0, hm⟩ := hb
  have hS : itemS (n : Int) 6 s = lookS s := by unfold itemS; rw [if_neg (fun e => e.elim h1 h2), if_neg h0, if_neg hm]
  refine ⟨by omega, hS, ?_⟩
  cases s with
  | error f => exact absurd rfl h1
  | ok l =>
    obtain ⟨x, r, rfl, hx, _⟩ := hM.head
    cases hr : nextW (x :: r) with
    | error f => exact absurd (look_err hr).1 h1
    | ok p =>
      obtain ⟨y, r'⟩ := p
      obtain ⟨rfl, _⟩ := nextW_head hr
      rw [(look_ok hr).1] at h2
      rw [(look_ok hr).2]
      refine ⟨⟨_, rfl, rfl⟩, fun v es1 hv M => ?_⟩
      have hp : pkW y ≠ 41 := fun e => h2 ((rel41 y hx).2 e)
      obtain ⟨m, hm'⟩ : ∃ m, 6 - n = m + 1 := ⟨6 - (n + 1), by omega⟩
      rw [hm', show 6 - (n + 1) = m by omega]
      simp only [onS] at hv ⊢
      cases hvv : pExpr 20 es (y :: r) with
      | error f =>
        rw [pListE_bad hr hp hvv]
        rfl
      | ok q =>
        obtain ⟨⟨v', es'⟩, l1⟩ := q
        have e := hv _ l1 hvv
        injection e with e1 e2
        subst e1
        subst e2
        rw [pListE_step hr hp hvv]
        rfl
theorem itemE_end {w : World} {pb g : Nat} {W : List Wd} {c : Nat} {s : Ps} {R : List Value} {n : Nat} {es : ES} (hM : MB w pb g W c s R) (hb : itemB (n : Int) 6 s = false) (hn : n ≤ 6) (M : List Int) : (∃ f, preE M (onS s (pListE (pExpr 20) (6 - n) es)) = .error f ∧ onS (itemS (n : Int) 6 s) (takeW 41) = .error f) ∨ ∃ x l, preE M (onS s (pListE (pExpr 20) (6 - n) es)) = .ok ((M, es), l) ∧ onS (itemS (n : Int) 6 s) (takeW 41) = .ok (x, l) := by
  cases s with
  | error f => exact .inl ⟨f, rfl, rfl⟩
  | ok l =>
    obtain ⟨x, r, rfl, hx, _⟩ := hM.head
    cases hr : nextW (x :: r) with
    | error f =>
      refine .inl ⟨f, ?_, ?_⟩
      · simp only [onS]
        rw [pListE_err hr]
        rfl
      · unfold itemS
        rw [if_pos (.inl (look_err hr).1), (look_err hr).2]
        rfl
    | ok p =>
      obtain ⟨y, r'⟩ := p
      obtain ⟨rfl, _⟩ := nextW_head hr
      have h1 := kind_low hx
      unfold itemS
      unfold itemB at hb
      rw [(look_ok hr).1] at hb ⊢
      rw [(look_ok hr).2]
      simp only [onS]
      by_cases h2 : y.kind = 2
      · refine .inr ⟨y, r', ?_, ?_⟩
        · rw [pListE_end hr ((rel41 y hx).1 h2)]
          simp [preE]
        · rw [if_pos (.inr h2)]
          simp only [takeW, hr]
          rw [if_pos ((rel41 y hx).1 h2)]
      · have hp : pkW y ≠ 41 := fun e => h2 ((rel41 y hx).2 e)
        rw [if_neg (fun e => e.elim h1 h2)]
        by_cases h0 : y.kind = 0
        · have hp0 : pkW y = 0 := (pk_rel hx).2.2.2.2.2.1 h0
          refine .inl ⟨(3, y.pos), ?_, ?_⟩
          · cases hk : 6 - n with
            | zero => rw [pListE_zero hr hp, if_pos hp0]; rfl
            | succ m => rw [pListE_bad hr hp (pExpr_end hr hp0)]; rfl
          · rw [if_pos h0]
            rfl
        · have hp0 : pkW y ≠ 0 := fun e => h0 ((pk_rel hx).2.2.2.2.2.2 e)
          simp [h1, h2, h0] at hb
          rw [if_neg h0, if_pos hb, show 6 - n = 0 by omega]
          refine .inl ⟨(4, y.pos), ?_, rfl⟩
          rw [pListE_zero hr hp, if_neg hp0]
          rfl
theorem item_stays {n m : Int} {s : Ps} : ∀ l, itemS n m s = .ok l → ∃ l', s = .ok l' := by
  intro l h
  cases s with
  | error f =>
    unfold itemS at h
    repeat' split at h
    all_goals cases h
  | ok l' => exact ⟨l', rfl⟩
/-- What arguments leave: the ')' is still ahead. -/
def MAPost (w : World) (B pb g : Nat) (W : List Wd) (c : Nat) (s : Ps) (nm sl pv av : Value) (es : ES) (ob : Option Nat) (e : Ending) (w' : World) : Prop := MkX pb ob w w' ∧ ∃ (M : List Int) (la : Option Addr) (lc : Nat) (sx : Ps) (es' : ES) (ea' : Option Addr) (ec' : Nat) (bg' : Int), e = .returned (.slice la M.length lc) ∧ w'.ownsRow w.heap.size 3 1 (.slice la M.length lc) M.length (inC M) ∧ MX w' B pb g W c sx nm sl pv av es' ea' ec' bg' ∧ RowX ob (obE es' ea' ec') w.heap.size ∧ (∀ l, sx = .ok l → ∃ l', s = .ok l') ∧ ((∃ f, onS s (pListE (pExpr 20) 6 es) = .error f ∧ onS sx (takeW 41) = .error f) ∨ ∃ x l, onS s (pListE (pExpr 20) 6 es) = .ok ((M, es'), l) ∧ onS sx (takeW 41) = .ok (x, l))
set_option maxRecDepth 100000 in
set_option maxHeartbeats 3200000 in
theorem margs_any (w : World) (B pb g : Nat) (W : List Wd) (c : Nat) (s : Ps) (nm sl pv av : Value) (es : ES) (ea : Option Addr) (ec : Nat) (bg : Int) (h : MX w B pb g W c s nm sl pv av es ea ec bg) (hk : ∀ l, s = .ok l → es.1.length ≤ es.2 ∧ es.2 ≤ 60) : Calls Tryz.prog 72 #[.pointer (some ⟨pb, 0, none⟩)] w (MAPost w B pb g W c s nm sl pv av es (obE es ea ec)) := by
  have HP := hidX h
  have HK := hidX hk
  have hpb := h.mb.lt
  have hgl := h.mb.glt
  have hpB := h.lt
  have hgB := h.gl
  clear h hk
  go_enter Tryz.func72, Tryz.ntmps72
  go_wp2_with fail
  go_loopw [3] (fun v wr => ∃ (M : List Int) (la : Option Addr) (lc : Nat) (sx : Ps) (es' : ES) (ea' : Option Addr) (ec' : Nat) (bg' : Int), M.length ≤ 6 ∧ v = .slice la M.length lc ∧ wr.ownsRow w.heap.size 3 1 (.slice la M.length lc) M.length (inC M) ∧ MX wr B pb g W c sx nm sl pv av es' ea' ec' bg' ∧ MkX pb (obE es ea ec) w wr ∧ RowX (obE es ea ec) (obE es' ea' ec') w.heap.size ∧ onS s (pListE (pExpr 20) 6 es) = preE M (onS sx (pListE (pExpr 20) (6 - M.length) es')) ∧ (∀ l, sx = .ok l → es'.1.length ≤ es'.2 ∧ es'.2 ≤ 60) ∧ ∀ l, sx = .ok l → ∃ l', s = .ok l') (fun v _ => 6 - sliceLen v)
  case atStart => exact ⟨[], none, 0, s, es, ea, ec, bg, by simp, rfl, World.ownsRow_nil _ _ _ _, HP.out, MkX.refl _ _ _, .inl rfl, by unfold preE; cases onS s (pListE (pExpr 20) 6 es) <;> rfl, HK.out, fun l e => ⟨l, e⟩⟩
  case round =>
    obtain ⟨M, la, lc, sx, es', ea', ec', bg', hML, rfl, hown, hps, hmk, hrx, hpl, hk', hst⟩ := hrel
    have OW := hidX hown
    have PS := hidX hps
    have MK := hidX hmk
    have RX := hidX hrx
    have PL := hidX hpl
    have HK' := hidX hk'
    have HST := hidX hst
    have swr := hmk.rest.size
    have HIT := hidX (mitem_any wr pb g W c sx _ (M.length : Int) 6 hps.mb)
    unfold ItPost at HIT
    clear hown hps hmk hrx hpl hk' hst
    cases hI : itemB (M.length : Int) 6 sx with
    | false =>
      have HE := hidX (itemE_end (es := es') PS.out.mb hI hML M)
      rw [hI] at HIT
      clear hI
      go_wp2_with (first | (go_at_call 60; refine HIT.out.mono ?_; rintro e w6 ⟨rfl, hm6, hb6⟩) | fail)
      go_ret
      refine ⟨MK.out.trans (MkX.of hm6) RX.out, M, la, lc, itemS (M.length : Int) 6 sx, es', ea', ec', bg', rfl, own_mko OW.out hm6 hpb, PS.out.mko hm6 hb6 item_stays, RX.out, fun l e => ?_, ?_⟩
      · obtain ⟨l', e'⟩ := item_stays l e
        exact HST.out l' e'
      · rw [PL.out]
        exact HE.out
    | true =>
      obtain ⟨hn6, hIS, ⟨l0, hl0, hl1⟩, hmore⟩ := itemE_more (es := es') PS.out.mb hI
      rw [hI] at HIT
      have HMO := hidX hmore
      have HLS := hidX hl1
      have HL0 := hidX hl0
      rw [hIS, hl1] at HIT
      have HX := hidX (fun u (hu : MX u B pb g W c (.ok l0) nm sl pv av es' ea' ec' bg') => mexpr_all 20 u B pb g W c (.ok l0) nm sl pv av es' ea' ec' bg' 0 0 hu (by omega) (by omega) (fun l _ => by have := HK'.out l0 HL0.out; exact ⟨by omega, this.2⟩))
      clear hI hIS hmore hl0 hl1
      go_wp2_with (first | (go_at_call 60; refine HIT.out.mono ?_; rintro e w6 ⟨rfl, hm6, hb6⟩; have P6 := PS.out.mko hm6 hb6 (fun l e => ⟨l0, HL0.out⟩)) | (go_at_call 100; refine (HX.out _ P6).mono ?_; rintro e w7 ⟨hm7, v, es2, ea2, ec2, bg2, he7, hx7, hr7, hy7⟩; obtain rfl : e = .returned (.int .i64 v) := he7; have s6 := hm6.rest.size; have M7 := hidX ((MK.out.trans (MkX.of hm6) RX.out).trans hm7 RX.out); have OW7 := hidX (own_mkx (own_mko OW.out hm6 hpb) hm7 hpb P6.row (by decide)); have hsz7 := M7.out.rest.size; have HA7 := hidX (fun o' => (Below.refl _ _).alloc (Nat.le_refl _) o' : ∀ o', Below w7.heap.size w7 (w7.alloc o'))) | (at_builtin; refine wpList_append_any (by rfl) (.tmp 8) (.tmp 11) 82 (by rfl) w.heap.size 3 _ 1 8 Tryz.underlying82 infoIF1 (by rfl) (by omega) _ M.length _ (by rfl) (own_bel OW7.out (HA7.out _)) (some ⟨_, 0, none⟩) 1 1 (by rfl) [.int .i64 v] (by rfl) (fun e => by cases e) (news_new _ _ _ _ (by simp)) (inC_one v) (by unfold maxLen; omega) (by omega) (by simp; omega) ?_; intro a8 c8 w8 ho8 hg8 hl8) | fail)
      have hrow : ∀ k, (Value.slice la M.length lc).ownBlock = some k → w.heap.size ≤ k := fun k hk => (OW7.out.lt k hk).1
      have TY := hidX (fun o' g hg => own_type (own_bel OW7.out (HA7.out o')) (k := g) hg)
      have HSA := hidX (fun o' => hx7.below (HA7.out o'))
      have S8 := hidX (show MX w8 B pb g W c (stS (onS (.ok l0) (pExpr 20 es'))) nm sl pv av es2 ea2 ec2 bg2 from ⟨(HSA.out _).mb.blocks (hg8.out.block pb (HSA.out _).mb.lt (fun e => by have := hrow pb e.symm; omega)) (hg8.out.block g (HSA.out _).mb.glt (fun e => by have := hrow g e.symm; omega)), hx7.hb, own_grown (HSA.out _).ow hg8.out (TY.out _) (by decide), hpB, hgB, Nat.le_trans (HSA.out _).le hg8.out.size⟩)
      have M8 := hidX (show MkX pb (obE es ea ec) w w8 from ⟨(M7.out.rest.trans ((HA7.out _).mono (Nat.zero_le _))).grown hg8.out (Nat.zero_le _) (fun _ _ => Nat.zero_le _), fun g hg hp ho => (hg8.out.block g (by simp; omega) (fun e => by have := hrow g e.symm; omega)).trans (((HA7.out _).block g (by omega)).trans (M7.out.block g hg hp ho))⟩)
      have RX8 := hidX (RX.out.trans hr7 (by omega))
      have hmo := HMO.out v es2 (by rw [HLS.out]; exact hy7) M
      have HIV : ∀ l, stS (onS (.ok l0) (pExpr 20 es')) = .ok l → es2.1.length ≤ es2.2 ∧ es2.2 ≤ 60 := fun l hl => by
        simp only [onS] at hl
        cases he : pExpr 20 es' l0 with
        | error e => rw [he] at hl; cases hl
        | ok p =>
          have hy := hy7 p.1 p.2 he
          have hq := HK'.out l0 HL0.out
          have hiv := pExpr_inv 20 es' l0 p.2 0 p.1.1 p.1.2 (by omega) hq.2 he
          rw [hy] at hiv
          simpa using hiv
      have PL8 : onS s (pListE (pExpr 20) 6 es) = preE (M ++ [v]) (onS (stS (onS (.ok l0) (pExpr 20 es'))) (pListE (pExpr 20) (6 - (M ++ [v]).length) es2)) := by
        rw [PL.out, hmo, HLS.out]
        simp
      go_roundw
      case rel => exact ⟨M ++ [v], a8, c8, _, es2, ea2, ec2, bg2, by simp; omega, by simp, by simpa [inC] using ho8.out, S8.out, M8.out, RX8.out, PL8, HIV, fun l _ => HST.out l0 HL0.out⟩
      case measure => (simp [sliceLen]; omega)
end Go.Proofs.YtdhpoagjmiligaaGreatDoor

namespace Go.Proofs.YtdhpoagjmiligaaGreatDoor
open Go.RowKit
attribute [local go_sem ↓] Go.wp_at_zero Go.wp_at_succ

set_option maxHeartbeats 1600000 in
theorem mplace_any (w : World) (pb g : Nat) (W : List Wd) (c : Nat) (s : Ps) (R : List Value) (h : MB w pb g W c s R) : Calls Tryz.prog 73 #[.pointer (some ⟨pb, 0, none⟩)] w (MPost w pb g W c R Rint (onS s pRef)) := by
  have hf3 := mfield3
  have HTK := hidX (mtake_any w pb g W c s R 3 48 rel48 (by decide) (by decide) h)
  have HEQ : Hid (onS s pRef = andP (onS s (takeW 48)) fun x l1 => .ok (refOf x.num, l1)) := show _ = _ from by cases s <;> rfl
  have HEND : Hid (∀ (x : Wd) (e : Ending) (w2 : World), MkO (some pb) w w2 → (∀ y l, onS s (takeW 48) = .ok (y, l) → y = x) → MB w2 pb g W c (stS (onS s (takeW 48))) R → Rint (refOf x.num) e w2 → MPost w pb g W c R Rint (onS s pRef) e w2) := show ∀ _, _ from fun x e w2 hm hy hb hq => by
    rw [HEQ.out]
    cases hr : onS s (takeW 48) with
    | error f =>
      rw [hr] at hb
      exact MPost.err _ rfl hm hq hb
    | ok q =>
      rw [hr] at hb
      obtain rfl := hy q.1 q.2 hr
      exact MPost.good rfl hm hq hb
  clear h
  go_enter Tryz.func73, Tryz.ntmps73
  go_upto_region 2 with (first | (go_at_call 34; refine HTK.out.mono ?_; rintro e w2 ⟨hm2, ⟨y, he2, hy2⟩, hb2⟩; obtain rfl : e = .returned (wdA y) := he2; unfold wdA) | fail)
  obtain ⟨N, hN⟩ : ∃ N, N = y.num := ⟨_, rfl⟩
  rw [← hN]
  have HE2 := hidX (HEND.out y)
  rw [← hN] at HE2
  clear hN HTK HEQ HEND
  by_cases h1 : N < -1000000
  · have HR : Hid (refOf N = 0) := show _ = _ from by unfold refOf; rw [if_pos (.inl h1)]
    go_wp2_with fail
    go_ret
    exact HE2.out _ _ hm2 hy2 hb2 (by rw [HR.out]; rfl)
  · by_cases h2 : 1000000 < N
    · have HR : Hid (refOf N = 0) := show _ = _ from by unfold refOf; rw [if_pos (.inr h2)]
      go_wp2_with fail
      go_ret
      exact HE2.out _ _ hm2 hy2 hb2 (by rw [HR.out]; rfl)
    · have HR : Hid (refOf N = N) := show _ = _ from by unfold refOf; rw [if_neg (by omega)]
      go_wp2_with fail
      go_ret
      exact HE2.out _ _ hm2 hy2 hb2 (by rw [HR.out]; rfl)
def actT : List Bs := [addT, dropT, modT, haltT]
/-- The model's action, its '(' and all. -/
def actM (es : ES) (l : List Wd) : Px (Ac × ES) := andP (takeW 40 l) fun _ l1 => pAct es l1
theorem one_sym {T : List Bs} {l : List Wd} (h : GoodL l) : oneM 5 T l = andP (takeW 97 l) fun x l1 => if ptW x ∈ T then .ok (ptW x, l1) else .error (3, x.pos) := by
  unfold oneM takeW
  cases hr : nextW l with
  | error f => rfl
  | ok q =>
    obtain ⟨x, r⟩ := q
    have hx : WdOk x := h.2 x (nextW_mem hr)
    simp only
    by_cases h5 : x.kind = 5
    · rw [if_pos ((rel97 x hx).1 h5), andP_ok, ptW_sym hx h5]
      by_cases hT : x.text ∈ T
      · rw [if_pos ⟨h5, hT⟩, if_pos hT]
      · rw [if_neg (fun e => hT e.2), if_neg hT]
    · rw [if_neg (fun e => h5 ((rel97 x hx).2 e)), if_neg (fun e => h5 e.1)]
      rfl
/-- An action, as the model reads it. -/
theorem act_eq {l : List Wd} {es : ES} (h : GoodL l) : pAct es l = andP (oneM 5 actT l) fun t l1 => if t = haltT then aHalt es l1 else if t = modT then aMod es l1 else if t = dropT then aDrop es l1 else aAdd es l1 := by
  rw [one_sym h]
  unfold pAct
  cases takeW 97 l with
  | error f => rfl
  | ok q =>
    obtain ⟨x, r⟩ := q
    rw [andP_ok, andP_ok]
    by_cases h1 : ptW x = haltT
    · rw [if_pos h1, if_pos (by rw [h1]; decide), andP_ok, if_pos h1]
    · by_cases h2 : ptW x = modT
      · rw [if_neg h1, if_pos h2, if_pos (by rw [h2]; decide), andP_ok, if_neg h1, if_pos h2]
      · by_cases h3 : ptW x = dropT
        · rw [if_neg h1, if_neg h2, if_pos h3, if_pos (by rw [h3]; decide), andP_ok, if_neg h1, if_neg h2, if_pos h3]
        · by_cases h4 : ptW x = addT
          · rw [if_neg h1, if_neg h2, if_neg h3, if_pos h4, if_pos (by rw [h4]; decide), andP_ok, if_neg h1, if_neg h2, if_neg h3]
          · rw [if_neg h1, if_neg h2, if_neg h3, if_neg h4, if_neg (by simp [actT, h1, h2, h3, h4])]
            rfl
/-- Which body an action has. -/
def actK (t : Bs) (es : ES) (l1 : List Wd) : Px (Ac × ES) := if t = haltT then aHalt es l1 else if t = modT then aMod es l1 else if t = dropT then aDrop es l1 else aAdd es l1
theorem act_way {s : Ps} {es : ES} {t : Bs} (hg : GoodS s) (ht : ∀ y l, onS (stS (onS s (takeW 40))) (oneM 5 actT) = .ok (y, l) → y = t) : onS s (actM es) = onS (stS (onS (stS (onS s (takeW 40))) (oneM 5 actT))) (actK t es) := by
  cases s with
  | error f => rfl
  | ok l =>
    have hf := Fine.take 40 l hg
    simp only [onS, actM] at ht ⊢
    cases hk : takeW 40 l with
    | error f => rfl
    | ok q =>
      obtain ⟨x, l1⟩ := q
      rw [hk] at hf ht
      rw [andP_ok, act_eq hf]
      simp only [stS] at ht ⊢
      cases ho : oneM 5 actT l1 with
      | error f => rfl
      | ok q =>
        obtain ⟨t', l2⟩ := q
        obtain rfl := ht t' l2 ho
        rfl
theorem act_none {s : Ps} {t : Bs} (ht : ∀ y l, onS s (oneM 5 actT) = .ok (y, l) → y = t) (hn : t ∉ actT) : ∃ f, stS (onS s (oneM 5 actT)) = .error f := by
  cases s with
  | error f => exact ⟨f, rfl⟩
  | ok l =>
    simp only [onS] at ht ⊢
    cases ho : oneM 5 actT l with
    | error f => exact ⟨f, rfl⟩
    | ok q =>
      obtain ⟨t', l2⟩ := q
      obtain rfl := ht t' l2 ho
      exact absurd (oneM_in ho) hn
theorem act_halt {s2 : Ps} {es : ES} : (∃ f, onS s2 (actK haltT es) = .error f ∧ onS s2 (takeW 41) = .error f) ∨ ∃ x l, onS s2 (actK haltT es) = .ok ((⟨4, 0, mkS [], []⟩, es), l) ∧ onS s2 (takeW 41) = .ok (x, l) := by
  cases s2 with
  | error f => exact .inl ⟨f, rfl, rfl⟩
  | ok l =>
    simp only [onS, actK, if_true, aHalt]
    cases takeW 41 l with
    | error f => exact .inl ⟨f, rfl, rfl⟩
    | ok q => exact .inr ⟨q.1, q.2, rfl, rfl⟩
theorem act_drop {s2 : Ps} {es : ES} {k : Int} (hk : ∀ y l, onS s2 pRef = .ok (y, l) → y = k) : (∃ f, onS s2 (actK dropT es) = .error f ∧ onS (stS (onS s2 pRef)) (takeW 41) = .error f) ∨ ∃ x l, onS s2 (actK dropT es) = .ok ((⟨2, k, mkS [], []⟩, es), l) ∧ onS (stS (onS s2 pRef)) (takeW 41) = .ok (x, l) := by
  cases s2 with
  | error f => exact .inl ⟨f, rfl, rfl⟩
  | ok l =>
    have e : actK dropT es l = aDrop es l := by unfold actK; rw [if_neg (by decide), if_neg (by decide), if_pos rfl]
    simp only [onS] at hk ⊢
    rw [e]
    unfold aDrop
    cases hr : pRef l with
    | error f => exact .inl ⟨f, rfl, rfl⟩
    | ok q =>
      obtain ⟨k', l1⟩ := q
      obtain rfl := hk k' l1 hr
      rw [andP_ok]
      simp only [stS]
      cases takeW 41 l1 with
      | error f => exact .inl ⟨f, rfl, rfl⟩
      | ok q => exact .inr ⟨q.1, q.2, rfl, rfl⟩
theorem act_mod {s2 sx : Ps} {es es' : ES} {k : Int} {M : List Int} (hk : ∀ y l, onS s2 pRef = .ok (y, l) → y = k) (hE : (∃ f, onS (stS (onS s2 pRef)) (pListE (pExpr 20) 6 es) = .error f ∧ onS sx (takeW 41) = .error f) ∨ ∃ x l, onS (stS (onS s2 pRef)) (pListE (pExpr 20) 6 es) = .ok ((M, es'), l) ∧ onS sx (takeW 41) = .ok (x, l)) : (∃ f, onS s2 (actK modT es) = .error f ∧ onS sx (takeW 41) = .error f) ∨ ∃ x l, onS s2 (actK modT es) = .ok ((⟨3, k, mkS [], M⟩, es'), l) ∧ onS sx (takeW 41) = .ok (x, l) := by
  have key : onS s2 (actK modT es) = andP (onS (stS (onS s2 pRef)) (pListE (pExpr 20) 6 es)) fun p l2 => .ok ((⟨3, k, mkS [], p.1⟩, p.2), l2) := by
    cases s2 with
    | error f => rfl
    | ok l =>
      have e : actK modT es l = aMod es l := by unfold actK; rw [if_neg (by decide), if_pos rfl]
      simp only [onS] at hk ⊢
      rw [e]
      unfold aMod
      cases hr : pRef l with
      | error f => rfl
      | ok q =>
        obtain ⟨k', l1⟩ := q
        obtain rfl := hk k' l1 hr
        rfl
  rw [key]
  rcases hE with ⟨f, h1, h2⟩ | ⟨x, l, h1, h2⟩
  · exact .inl ⟨f, by rw [h1]; rfl, h2⟩
  · exact .inr ⟨x, l, by rw [h1]; rfl, h2⟩
theorem act_add {s2 sx : Ps} {es es' : ES} {cl : Bs} {M : List Int} (hk : ∀ y l, onS s2 pClass = .ok (y, l) → y = cl) (hE : (∃ f, onS (stS (onS s2 pClass)) (pListE (pExpr 20) 6 es) = .error f ∧ onS sx (takeW 41) = .error f) ∨ ∃ x l, onS (stS (onS s2 pClass)) (pListE (pExpr 20) 6 es) = .ok ((M, es'), l) ∧ onS sx (takeW 41) = .ok (x, l)) : (∃ f, onS s2 (actK addT es) = .error f ∧ onS sx (takeW 41) = .error f) ∨ ∃ x l, onS s2 (actK addT es) = .ok ((⟨1, 0, mkS cl, M⟩, es'), l) ∧ onS sx (takeW 41) = .ok (x, l) := by
  have key : onS s2 (actK addT es) = andP (onS (stS (onS s2 pClass)) (pListE (pExpr 20) 6 es)) fun p l2 => .ok ((⟨1, 0, mkS cl, p.1⟩, p.2), l2) := by
    cases s2 with
    | error f => rfl
    | ok l =>
      have e : actK addT es l = aAdd es l := by unfold actK; rw [if_neg (by decide), if_neg (by decide), if_neg (by decide)]
      simp only [onS] at hk ⊢
      rw [e]
      unfold aAdd
      cases hr : pClass l with
      | error f => rfl
      | ok q =>
        obtain ⟨k', l1⟩ := q
        obtain rfl := hk k' l1 hr
        rfl
  rw [key]
  rcases hE with ⟨f, h1, h2⟩ | ⟨x, l, h1, h2⟩
  · exact .inl ⟨f, by rw [h1]; rfl, h2⟩
  · exact .inr ⟨x, l, by rw [h1]; rfl, h2⟩
end Go.Proofs.YtdhpoagjmiligaaGreatDoor

namespace Go.Proofs.YtdhpoagjmiligaaGreatDoor
open Go.RowKit
attribute [local go_sem ↓] Go.wp_at_zero Go.wp_at_succ

theorem actT_new (w : World) : TxAt (w.alloc (.cells #[.string ⟨#[97, 100, 100]⟩, .string ⟨#[100, 114, 111, 112]⟩, .string ⟨#[109, 111, 100]⟩, .string ⟨#[104, 97, 108, 116]⟩] 9)) w.heap.size actT := fun j t ht => by
  have hb := heap_alloc_new w (.cells #[.string ⟨#[97, 100, 100]⟩, .string ⟨#[100, 114, 111, 112]⟩, .string ⟨#[109, 111, 100]⟩, .string ⟨#[104, 97, 108, 116]⟩] 9)
  refine cell_of (L := [_, _, _, _]) hb ?_
  match j, ht with
  | 0, ht => injection ht with ht; subst ht; rfl
  | 1, ht => injection ht with ht; subst ht; rfl
  | 2, ht => injection ht with ht; subst ht; rfl
  | 3, ht => injection ht with ht; subst ht; rfl
  | j + 4, ht => cases ht
def zA : Ac := ⟨0, 0, mkS [], []⟩
/-- Behind an action's words but its ')'. -/
structure AcB (w wx : World) (B pb g rb cb : Nat) (W : List Wd) (c : Nat) (nm sl pv av : Value) (ob : Option Nat) (r : Px (Ac × ES)) (sx : Ps) (x : Ac) (es' : ES) (ea' : Option Addr) (ec' : Nat) (bg' : Int) (la : Option Addr) (lc : Nat) : Prop where
  mo : MkX pb ob w wx
  st : MX wx B pb g W c sx nm sl pv av es' ea' ec' bg'
  rw' : RowX ob (obE es' ea' ec') w.heap.size
  rq : wx.heap[rb]? = some (.cells (acL zA (.slice none 0 0)).toArray 84 (0, 0))
  cq : wx.heap[cb]? = some (.cells (acL x (.slice la x.args.length lc)).toArray 84 (0, 0))
  ow : wx.ownsRow w.heap.size 3 1 (.slice la x.args.length lc) x.args.length (inC x.args)
  he : (∃ f, r = .error f ∧ onS sx (takeW 41) = .error f) ∨ ∃ y l, r = .ok ((x, es'), l) ∧ onS sx (takeW 41) = .ok (y, l)
theorem MX.boxne {w : World} {B pb g b : Nat} {W : List Wd} {c : Nat} {s : Ps} {nm sl pv av : Value} {es : ES} {ea : Option Addr} {ec : Nat} {bg : Int} {cs : Array Value} (h : MX w B pb g W c s nm sl pv av es ea ec bg) (hb : w.heap[b]? = some (.cells cs 84 (0, 0))) : ∀ k, obE es ea ec = some k → k ≠ b := fun k hk e => by
  obtain ⟨c1, e1⟩ := own_type h.ow hk
  subst e
  rw [e1] at hb
  injection hb with hb
  injection hb with _ hb _
  exact absurd hb (by decide)
set_option maxRecDepth 100000 in
set_option maxHeartbeats 6400000 in
theorem maction_any (w : World) (B pb g : Nat) (W : List Wd) (c : Nat) (s : Ps) (nm sl pv av : Value) (es : ES) (ea : Option Addr) (ec : Nat) (bg : Int) (h : MX w B pb g W c s nm sl pv av es ea ec bg) (hk : ∀ l, s = .ok l → es.1.length ≤ es.2 ∧ es.2 ≤ 60) : Calls Tryz.prog 37 #[.pointer (some ⟨pb, 0, none⟩)] w (MEPost w B pb g W c nm sl pv av (obE es ea ec) (Rac w.heap.size) (onS s (actM es))) := by
  have HP := hidX h
  have HK := hidX hk
  have hpb := h.mb.lt
  have hgl := h.mb.glt
  have hpB := h.lt
  have hgB := h.gl
  have hBl := h.le
  clear h hk
  go_enter Tryz.func37, Tryz.ntmps37
  go_upto_region 1 with fail
  refine lift_alloc ?_
  intro w1 hW1 hq1
  have hrb : w.heap.size < w1.heap.size := lt_of_block' hq1
  have P1 := hidX (HP.out.below hW1)
  have HTK := hidX (mtake_any w1 pb g W c s _ 1 40 rel40 (by decide) (by decide) P1.out.mb)
  have HQ1 := hidX hq1
  have M1 := hidX (MkX.of (MkO.of_below hW1) : MkX pb (obE es ea ec) w w1)
  clear hW1 hq1
  go_upto_region 2 with (first | (go_at_call 34; refine HTK.out.mono ?_; rintro e w2 ⟨hm2, ⟨y, he2, _⟩, hb2⟩; obtain rfl : e = .returned (wdA y) := he2; unfold wdA) | fail)
  have P2 := hidX (P1.out.mko hm2 hb2 st_ok)
  have M2 := hidX (M1.out.trans (MkX.of hm2) (.inl rfl))
  have hs2 := hm2.rest.size
  have HRB2 := hidX ((hm2.block w.heap.size hrb (fun e => by injection e; omega)).trans HQ1.out)
  clear hm2 hb2 HTK HQ1 M1 P1
  go_upto_region 3 with fail
  refine lift_alloc ?_
  intro w3 hW3 hq3
  have hl3 : w2.heap.size < w3.heap.size := lt_of_block' hq3
  have P3 := hidX (P2.out.below hW3)
  have M3 := hidX (M2.out.below hW3)
  have HRB3 := hidX ((hW3.block w.heap.size (by omega)).trans HRB2.out)
  have HC3 := hidX hq3
  have HAL := hidX (fun o => (Below.refl _ _).alloc (Nat.le_refl _) o : ∀ o, Below w3.heap.size w3 (w3.alloc o))
  have HON := hidX (mone_any (w3.alloc (.cells #[.string ⟨#[97, 100, 100]⟩, .string ⟨#[100, 114, 111, 112]⟩, .string ⟨#[109, 111, 100]⟩, .string ⟨#[104, 97, 108, 116]⟩] 9)) pb g w3.heap.size 4 W c (stS (onS s (takeW 40))) _ 5 actT (by decide) (by decide) (actT_new _) (by omega) (by simp) (by decide) (P3.out.mb.below (HAL.out _)))
  clear hW3 hq3 P2 M2 HRB2
  go_upto_block 0 with (first | (go_at_call 35; refine HON.out.mono ?_; rintro e w4 ⟨hm4, ⟨t, he4, ht4⟩, hb4⟩; obtain rfl : e = .returned (.string (mkS t)) := he4) | fail)
  have hs4 := hm4.rest.size
  simp at hs4
  have P4 := hidX ((P3.out.below (HAL.out _)).mko hm4 hb4 st_ok)
  have M4 := hidX ((M3.out.below (HAL.out _)).trans (MkX.of hm4) (.inl rfl))
  have HRB4 := hidX ((hm4.block w.heap.size (by simp; omega) (fun e => by injection e; omega)).trans (((HAL.out _).block w.heap.size (by omega)).trans HRB3.out))
  have HC4 := hidX ((hm4.block w2.heap.size (by simp; omega) (fun e => by injection e; omega)).trans (((HAL.out _).block w2.heap.size (by omega)).trans HC3.out))
  have HT4 := hidX ht4
  have HW := hidX (act_way (es := es) HP.out.mb.gs ht4)
  have hcl : w2.heap.size < w4.heap.size := by omega
  obtain ⟨s2, hs2'⟩ : ∃ s2, s2 = stS (onS (stS (onS s (takeW 40))) (oneM 5 actT)) := ⟨_, rfl⟩
  rw [← hs2'] at P4 HW
  have HS2 := hidX hs2'
  have HK2 : Hid (∀ l, s2 = .ok l → es.1.length ≤ es.2 ∧ es.2 ≤ 60) := show ∀ _, _ from fun l e => by
    rw [HS2.out] at e
    obtain ⟨l1, e1⟩ := st_ok l e
    obtain ⟨l2, e2⟩ := st_ok l1 e1
    exact HK.out l2 e2
  clear hm4 hb4 ht4 hs2' HON HAL M3 P3 HRB3 HC3
  have hwx : w.heap.size < w2.heap.size := by omega
  go_cut [] (fun wx => ∃ sx x es' ea' ec' bg' la lc, AcB w wx B pb g w.heap.size w2.heap.size W c nm sl pv av (obE es ea ec) (onS s (actM es)) sx x es' ea' ec' bg' la lc)
  case first =>
    have b0 := cell_of (L := acL zA (.slice none 0 0)) HC4.out (j := 0) rfl
    have z0 := froz_of HC4.out 0
    have q1 := beq_lit (mkS t) addT
    have q2 := beq_lit (mkS t) dropT
    have q3 := beq_lit (mkS t) modT
    have q4 := beq_lit (mkS t) haltT
    rw [bs_mkS] at q1 q2 q3 q4
    replace q1 : ((mkS t).toList == [97, 100, 100]) = decide (t = addT) := q1
    replace q2 : ((mkS t).toList == [100, 114, 111, 112]) = decide (t = dropT) := q2
    replace q3 : ((mkS t).toList == [109, 111, 100]) = decide (t = modT) := q3
    replace q4 : ((mkS t).toList == [104, 97, 108, 116]) = decide (t = haltT) := q4
    by_cases h1 : t = addT
    · subst h1
      rw [decide_eq_true rfl] at q1
      clear q2 q3 q4
      go_upto_region 6 with fail
      refine lift_setW HC4.out ?_
      intro w5 hq5 ht5
      replace hq5 : w5.heap[w2.heap.size]? = some (.cells (acL ⟨1, 0, mkS [], []⟩ (.slice none 0 0)).toArray 84 (0, 0)) := by
        rw [hq5]
        first | rfl | (simp [acL]; done) | simp [acL, mkS]
      have P5 := hidX (P4.out.turned ht5 (by omega) (P4.out.boxne HC4.out))
      have M5 := hidX (M4.out.turn ht5 (by omega))
      have R5 := hidX ((ht5.block w.heap.size (by omega)).trans HRB4.out)
      have C5 := hidX hq5
      have s5' : w4.heap.size ≤ w5.heap.size := Nat.le_of_eq ht5.size.symm
      clear hq5 ht5 b0 z0
      have HCL := hidX (mclass_any w5 pb g W c s2 _ P5.out.mb)
      go_upto_region 7 with (first | (go_at_call 59; refine HCL.out.mono ?_; rintro e w6 ⟨hm6, ⟨v6, he6, hv6⟩, hb6⟩; obtain rfl : e = .returned (.string (mkS v6)) := he6; have hs6 := hm6.rest.size; have hq6 := (hm6.block w2.heap.size (by omega) (fun e => by injection e; omega)).trans C5.out; have d0 := cell_of hq6 (j := 2) rfl; have e0 := froz_of hq6 2) | fail)
      refine lift_setW hq6 ?_
      intro w7 hq7 ht7
      replace hq7 : w7.heap[w2.heap.size]? = some (.cells (acL ⟨1, 0, mkS v6, []⟩ (.slice none 0 0)).toArray 84 (0, 0)) := by
        rw [hq7]
        first | rfl | (simp [acL]; done) | simp [acL, mkS]
      have P6 := P5.out.mko hm6 hb6 st_ok
      have P7 := hidX (P6.turned ht7 (by omega) (P6.boxne hq6))
      have M7 := hidX ((M5.out.trans (MkX.of hm6) (.inl rfl)).turn ht7 (by omega))
      have R7 := hidX ((ht7.block w.heap.size (by omega)).trans ((hm6.block w.heap.size (by omega) (fun e => by injection e; omega)).trans R5.out))
      have C7 := hidX hq7
      have HV6 := hidX hv6
      have s7' : w6.heap.size ≤ w7.heap.size := Nat.le_of_eq ht7.size.symm
      have HAR := hidX (margs_any w7 B pb g W c (stS (onS s2 pClass)) nm sl pv av es ea ec bg P7.out (fun l e => by obtain ⟨l1, e1⟩ := st_ok l e; exact HK2.out l1 e1))
      have OB7 := hidX (P7.out.boxne hq7)
      have OBR := hidX (P7.out.boxne R7.out)
      clear hq6 hq7 ht7 hm6 hb6 hv6 d0 e0 P6 HCL P5 M5 R5 C5
      go_wp2_with (first | (go_at_call 72; refine HAR.out.mono ?_; rintro e w8 ⟨hm8, M, la, lc, sx, es', ea', ec', bg', rfl, ho8, hx8, hr8, _, hE8⟩; have hs8 := hm8.rest.size; have hq8 := (hm8.block w2.heap.size (by omega) (by omega) (fun e => OB7.out _ e rfl)).trans C7.out; have d3 := cell_of hq8 (j := 3) rfl; have e3 := froz_of hq8 3) | fail)
      refine lift_setW hq8 ?_
      intro w9 hq9 ht9
      replace hq9 : w9.heap[w2.heap.size]? = some (.cells (acL ⟨1, 0, mkS v6, M⟩ (.slice la M.length lc)).toArray 84 (0, 0)) := by
        rw [hq9]
        first | rfl | (simp [acL]; done) | simp [acL, mkS]
      have P9 := hx8.turned ht9 (by omega) (hx8.boxne hq8)
      have M9 := (M7.out.trans hm8 (.inl rfl)).turn ht9 (by omega)
      have R9 := (ht9.block w.heap.size (by omega)).trans ((hm8.block w.heap.size (by omega) (by omega) (fun e => OBR.out _ e rfl)).trans R7.out)
      have O9 := own_turn (owns_base ho8 (show w.heap.size ≤ w7.heap.size by omega)) ht9 hq8 (by decide)
      have X9 : RowX (obE es ea ec) (obE es' ea' ec') w.heap.size := hr8.imp id fun h g hg => by have := h g hg; omega
      clear d3 e3
      go_meet
      exact ⟨sx, ⟨1, 0, mkS v6, M⟩, es', ea', ec', bg', la, lc, M9, P9, X9, R9, hq9, O9, by rw [HW.out]; exact act_add HV6.out hE8⟩
    by_cases h2 : t = dropT
    · subst h2
      rw [decide_eq_true rfl] at q2
      rw [decide_eq_false h1] at q1
      clear h1 q3 q4
      go_upto_region 10 with fail
      refine lift_setW HC4.out ?_
      intro w5 hq5 ht5
      replace hq5 : w5.heap[w2.heap.size]? = some (.cells (acL ⟨2, 0, mkS [], []⟩ (.slice none 0 0)).toArray 84 (0, 0)) := by
        rw [hq5]
        first | rfl | (simp [acL]; done) | simp [acL, mkS]
      have P5 := hidX (P4.out.turned ht5 (by omega) (P4.out.boxne HC4.out))
      have M5 := hidX (M4.out.turn ht5 (by omega))
      have R5 := hidX ((ht5.block w.heap.size (by omega)).trans HRB4.out)
      have C5 := hidX hq5
      have s5' : w4.heap.size ≤ w5.heap.size := Nat.le_of_eq ht5.size.symm
      clear hq5 ht5 b0 z0
      have HCL := hidX (mplace_any w5 pb g W c s2 _ P5.out.mb)
      go_wp2_with (first | (go_at_call 73; refine HCL.out.mono ?_; rintro e w6 ⟨hm6, ⟨v6, he6, hv6⟩, hb6⟩; obtain rfl : e = .returned (.int .i64 v6) := he6; have hs6 := hm6.rest.size; have hq6 := (hm6.block w2.heap.size (by omega) (fun e => by injection e; omega)).trans C5.out; have d0 := cell_of hq6 (j := 1) rfl; have e0 := froz_of hq6 1) | fail)
      refine lift_setW hq6 ?_
      intro w7 hq7 ht7
      replace hq7 : w7.heap[w2.heap.size]? = some (.cells (acL ⟨2, v6, mkS [], []⟩ (.slice none 0 0)).toArray 84 (0, 0)) := by
        rw [hq7]
        first | rfl | (simp [acL]; done) | simp [acL, mkS]
      have P6 := P5.out.mko hm6 hb6 st_ok
      have P7 := hidX (P6.turned ht7 (by omega) (P6.boxne hq6))
      have M7 := hidX ((M5.out.trans (MkX.of hm6) (.inl rfl)).turn ht7 (by omega))
      have R7 := hidX ((ht7.block w.heap.size (by omega)).trans ((hm6.block w.heap.size (by omega) (fun e => by injection e; omega)).trans R5.out))
      have C7 := hidX hq7
      have HV6 := hidX hv6
      have s7' : w6.heap.size ≤ w7.heap.size := Nat.le_of_eq ht7.size.symm
      clear d0 e0
      go_meet
      exact ⟨stS (onS s2 pRef), ⟨2, v6, mkS [], []⟩, es, ea, ec, bg, none, 0, M7.out, P7.out, .inl rfl, R7.out, C7.out, World.ownsRow_nil _ _ _ _, by rw [HW.out]; exact act_drop hv6⟩
    by_cases h3 : t = modT
    · subst h3
      rw [decide_eq_true rfl] at q3
      rw [decide_eq_false h1] at q1
      rw [decide_eq_false h2] at q2
      clear h1 h2 q4
      go_upto_region 13 with fail
      refine lift_setW HC4.out ?_
      intro w5 hq5 ht5
      replace hq5 : w5.heap[w2.heap.size]? = some (.cells (acL ⟨3, 0, mkS [], []⟩ (.slice none 0 0)).toArray 84 (0, 0)) := by
        rw [hq5]
        first | rfl | (simp [acL]; done) | simp [acL, mkS]
      have P5 := hidX (P4.out.turned ht5 (by omega) (P4.out.boxne HC4.out))
      have M5 := hidX (M4.out.turn ht5 (by omega))
      have R5 := hidX ((ht5.block w.heap.size (by omega)).trans HRB4.out)
      have C5 := hidX hq5
      have s5' : w4.heap.size ≤ w5.heap.size := Nat.le_of_eq ht5.size.symm
      clear hq5 ht5 b0 z0
      have HCL := hidX (mplace_any w5 pb g W c s2 _ P5.out.mb)
      go_upto_region 14 with (first | (go_at_call 73; refine HCL.out.mono ?_; rintro e w6 ⟨hm6, ⟨v6, he6, hv6⟩, hb6⟩; obtain rfl : e = .returned (.int .i64 v6) := he6; have hs6 := hm6.rest.size; have hq6 := (hm6.block w2.heap.size (by omega) (fun e => by injection e; omega)).trans C5.out; have d0 := cell_of hq6 (j := 1) rfl; have e0 := froz_of hq6 1) | fail)
      refine lift_setW hq6 ?_
      intro w7 hq7 ht7
      replace hq7 : w7.heap[w2.heap.size]? = some (.cells (acL ⟨3, v6, mkS [], []⟩ (.slice none 0 0)).toArray 84 (0, 0)) := by
        rw [hq7]
        first | rfl | (simp [acL]; done) | simp [acL, mkS]
      have P6 := P5.out.mko hm6 hb6 st_ok
      have P7 := hidX (P6.turned ht7 (by omega) (P6.boxne hq6))
      have M7 := hidX ((M5.out.trans (MkX.of hm6) (.inl rfl)).turn ht7 (by omega))
      have R7 := hidX ((ht7.block w.heap.size (by omega)).trans ((hm6.block w.heap.size (by omega) (fun e => by injection e; omega)).trans R5.out))
      have C7 := hidX hq7
      have HV6 := hidX hv6
      have s7' : w6.heap.size ≤ w7.heap.size := Nat.le_of_eq ht7.size.symm
      have HAR := hidX (margs_any w7 B pb g W c (stS (onS s2 pRef)) nm sl pv av es ea ec bg P7.out (fun l e => by obtain ⟨l1, e1⟩ := st_ok l e; exact HK2.out l1 e1))
      have OB7 := hidX (P7.out.boxne hq7)
      have OBR := hidX (P7.out.boxne R7.out)
      clear hq6 hq7 ht7 hm6 hb6 hv6 d0 e0 P6 HCL P5 M5 R5 C5
      go_wp2_with (first | (go_at_call 72; refine HAR.out.mono ?_; rintro e w8 ⟨hm8, M, la, lc, sx, es', ea', ec', bg', rfl, ho8, hx8, hr8, _, hE8⟩; have hs8 := hm8.rest.size; have hq8 := (hm8.block w2.heap.size (by omega) (by omega) (fun e => OB7.out _ e rfl)).trans C7.out; have d3 := cell_of hq8 (j := 3) rfl; have e3 := froz_of hq8 3) | fail)
      refine lift_setW hq8 ?_
      intro w9 hq9 ht9
      replace hq9 : w9.heap[w2.heap.size]? = some (.cells (acL ⟨3, v6, mkS [], M⟩ (.slice la M.length lc)).toArray 84 (0, 0)) := by
        rw [hq9]
        first | rfl | (simp [acL]; done) | simp [acL, mkS]
      have P9 := hx8.turned ht9 (by omega) (hx8.boxne hq8)
      have M9 := (M7.out.trans hm8 (.inl rfl)).turn ht9 (by omega)
      have R9 := (ht9.block w.heap.size (by omega)).trans ((hm8.block w.heap.size (by omega) (by omega) (fun e => OBR.out _ e rfl)).trans R7.out)
      have O9 := own_turn (owns_base ho8 (show w.heap.size ≤ w7.heap.size by omega)) ht9 hq8 (by decide)
      have X9 : RowX (obE es ea ec) (obE es' ea' ec') w.heap.size := hr8.imp id fun h g hg => by have := h g hg; omega
      clear d3 e3
      go_meet
      exact ⟨sx, ⟨3, v6, mkS [], M⟩, es', ea', ec', bg', la, lc, M9, P9, X9, R9, hq9, O9, by rw [HW.out]; exact act_mod HV6.out hE8⟩
    by_cases h4 : t = haltT
    · subst h4
      rw [decide_eq_true rfl] at q4
      rw [decide_eq_false h1] at q1
      rw [decide_eq_false h2] at q2
      rw [decide_eq_false h3] at q3
      clear h1 h2 h3
      go_wp2_with fail
      refine lift_setW HC4.out ?_
      intro w5 hq5 ht5
      replace hq5 : w5.heap[w2.heap.size]? = some (.cells (acL ⟨4, 0, mkS [], []⟩ (.slice none 0 0)).toArray 84 (0, 0)) := by
        rw [hq5]
        first | rfl | (simp [acL]; done) | simp [acL, mkS]
      have P5 := P4.out.turned ht5 (by omega) (P4.out.boxne HC4.out)
      have M5 := M4.out.turn ht5 (by omega)
      have R5 := (ht5.block w.heap.size (by omega)).trans HRB4.out
      clear b0 z0
      go_meet
      exact ⟨s2, ⟨4, 0, mkS [], []⟩, es, ea, ec, bg, none, 0, M5, P5, .inl rfl, R5, hq5, World.ownsRow_nil _ _ _ _, by rw [HW.out]; exact act_halt⟩
    · obtain ⟨f, hf⟩ := act_none HT4.out (by simp [actT, h1, h2, h3, h4])
      rw [← HS2.out] at hf
      rw [decide_eq_false h1] at q1
      rw [decide_eq_false h2] at q2
      rw [decide_eq_false h3] at q3
      rw [decide_eq_false h4] at q4
      have HE : Hid ((∃ f, onS s (actM es) = .error f ∧ onS s2 (takeW 41) = .error f) ∨ ∃ y l, onS s (actM es) = .ok ((zA, es), l) ∧ onS s2 (takeW 41) = .ok (y, l)) := show _ ∨ _ from .inl ⟨f, by rw [HW.out, hf]; rfl, by rw [hf]; rfl⟩
      clear h1 h2 h3 h4 b0 z0 hf
      go_wp2_with fail
      go_meet
      exact ⟨s2, zA, es, ea, ec, bg, none, 0, M4.out, P4.out, .inl rfl, HRB4.out, HC4.out, World.ownsRow_nil _ _ _ _, HE.out⟩
  case rest =>
    obtain ⟨sx, x, es', ea', ec', bg', la, lc, hac⟩ := hcut
    obtain ⟨w5, rfl⟩ : ∃ v, v = wc := ⟨wc, rfl⟩
    clear M4 P4 HRB4 HC4 HT4 hcl HW HS2 HK2
    have AC := hidX hac
    have hcl : w2.heap.size < w5.heap.size := lt_of_block' hac.cq
    have HTK := hidX (mtake_any w5 pb g W c sx _ 2 41 rel41 (by decide) (by decide) hac.st.mb)
    clear hac
    go_upto_region 18 with (first | (go_at_call 34; refine HTK.out.mono ?_; rintro e w6 ⟨hm6, ⟨y6, he6, _⟩, hb6⟩; obtain rfl : e = .returned (wdA y6) := he6; unfold wdA) | fail)
    have hs6 := hm6.rest.size
    have hrq := (hm6.block w.heap.size (by omega) (fun e => by injection e; omega)).trans AC.out.rq
    have hcq := (hm6.block w2.heap.size (by omega) (fun e => by injection e; omega)).trans AC.out.cq
    have P6 := hidX (AC.out.st.mko hm6 hb6 st_ok)
    have M6 := hidX (AC.out.mo.trans (MkX.of hm6) AC.out.rw')
    have OW6 := hidX (own_mko AC.out.ow hm6 hpb)
    clear hm6 hb6 HTK
    go_wp2_with (first | (refine wpList_load_blk (by rfl) 84 (.tmp 3) (by rfl) w2.heap.size (acL x (.slice la x.args.length lc)) (by rfl) 84 (0, 0) hcq _ Tryz.underlying84 rfl infoAcP ?_) | (refine wpList_store_blk (by rfl) 84 (.tmp 2) (.tmp 38) (by rfl) w.heap.size (acL x (.slice la x.args.length lc)) (by rfl) (by rfl) _ 84 hrq (by rfl) infoAcP (acL_one _ _ _ _) ?_; intro w7 hb7 ht7) | fail)
    have hld := run_loadVar_mid (P := Tryz.prog) w7 w.heap.size 0 84 (acL x (.slice la x.args.length lc)) _ (range_blk hb7.out) Tryz.underlying84 rfl infoAcP
    (try go_frame)
    refine bodyPost_ret (v := .agg (acL x (.slice la x.args.length lc)).toArray) (by simp [results, Tryz.results37, asAddr, hld]) rfl ?_
    have M7 := M6.out.turn ht7.out (Nat.le_refl _)
    have P7 := P6.out.turned ht7.out hBl (P6.out.boxne hrq)
    have O7 := own_turn OW6.out ht7.out hrq (by decide)
    rcases AC.out.he with ⟨f, h1, h2⟩ | ⟨y, l, h1, h2⟩
    · rw [h2] at P7
      exact MEPost.err x h1 M7 ⟨la, lc, rfl, O7⟩ P7 AC.out.rw'
    · rw [h2] at P7
      rw [h1]
      exact ⟨M7, x, es', ea', ec', bg', ⟨la, lc, rfl, O7⟩, P7, AC.out.rw', fun y l e => by injection e with e; injection e with e _; exact e.symm⟩
end Go.Proofs.YtdhpoagjmiligaaGreatDoor

namespace Go.Proofs.YtdhpoagjmiligaaGreatDoor
open Go.RowKit

/-- The patterns and their '=>'. -/
def pTo (n : Nat) (l : List Wd) : Px (List Pt) := andP (pMany 62 pPat n l) fun ps l1 => andP (takeW 62 l1) fun _ l2 => .ok (ps, l2)
/-- The actions and their ')'. -/
def aTo (n : Nat) (es : ES) (l : List Wd) : Px (List Ac × ES) := andP (pManyS 41 pAct n es l) fun q l1 => andP (takeW 41 l1) fun _ l2 => .ok (q, l2)
/-- One more pattern. -/
theorem pTo_more {w : World} {pb g : Nat} {W : List Wd} {c : Nat} {s : Ps} {R : List Value} {n : Nat} (hM : MB w pb g W c s R) (hk : lookK s = 1) (v : Pt) (hv : ∀ y l, onS (lookS s) patM = .ok (y, l) → y = v) (M : List Pt) : preL M (onS s (pTo (n + 1))) = preL (M ++ [v]) (onS (stS (onS (lookS s) patM)) (pTo n)) := by
  obtain ⟨x, r, rfl, hxk, hn, hls, hx, _⟩ := look_yes hM (by decide) (by decide) hk
  rw [hls] at hv ⊢
  have hp : pkW x = 40 := (rel40 x hx).1 hxk
  have ht : takeW 40 (x :: r) = .ok (x, r) := by simp only [takeW, hn, if_pos hp]
  simp only [onS, patM, ht, andP_ok] at hv ⊢
  cases hc : pPat r with
  | error f =>
    have e : pTo (n + 1) (x :: r) = .error f := by
      unfold pTo
      rw [pMany_bad hn (by omega) ht hc]
      rfl
    rw [e]
    rfl
  | ok q =>
    obtain ⟨v', l2⟩ := q
    obtain rfl := hv v' l2 hc
    simp only [stS]
    have e : pTo (n + 1) (x :: r) = preL [v'] (pTo n l2) := by
      have h0 := pMany_step (M := []) (n := n) hn (show pkW x ≠ 62 by omega) ht hc
      have h1 : pMany 62 pPat (n + 1) (x :: r) = preL [v'] (pMany 62 pPat n l2) := by
        cases hq : pMany 62 pPat (n + 1) (x :: r) with
        | error f => rw [hq] at h0; exact h0
        | ok p => rw [hq] at h0; simpa [preL] using h0
      unfold pTo
      rw [h1]
      cases pMany 62 pPat n l2 with
      | error f => rfl
      | ok p =>
        obtain ⟨vs, l3⟩ := p
        simp only [preL, andP_ok]
        cases takeW 62 l3 <;> rfl
    rw [e]
    cases pTo n l2 with
    | error f => rfl
    | ok p => simp [preL]
/-- No more patterns. -/
theorem pTo_end {w : World} {pb g : Nat} {W : List Wd} {c : Nat} {s : Ps} {R : List Value} {n : Nat} (hM : MB w pb g W c s R) (hk : lookK s ≠ 1) : onS s (pTo n) = andP (onS (lookS s) (oneM 6 toT)) fun _ l => .ok ([], l) := by
  cases s with
  | error f => rfl
  | ok l =>
    have hg := hM.good
    obtain ⟨x, r, rfl, hx, _⟩ := hM.head
    cases hr : nextW (x :: r) with
    | error f =>
      rw [(look_err hr).2]
      simp only [onS, pTo]
      rw [pMany_err hr]
      rfl
    | ok p =>
      obtain ⟨y, r'⟩ := p
      obtain ⟨rfl, _⟩ := nextW_head hr
      rw [(look_ok hr).1] at hk
      rw [(look_ok hr).2]
      simp only [onS, pTo]
      rw [one_to hg]
      have h40 : pkW y ≠ 40 := fun e => hk ((rel40 y hx).2 e)
      by_cases h62 : pkW y = 62
      · rw [pMany_end hr h62, andP_ok]
        cases takeW 62 (y :: r) <;> rfl
      · have ht : takeW 62 (y :: r) = .error (3, y.pos) := by simp only [takeW, hr, if_neg h62]
        have hm : pMany 62 pPat n (y :: r) = .error (3, y.pos) := by
          cases n with
          | zero => simp [pMany, hr, h62, h40]
          | succ n => simp [pMany, hr, h62, takeW, h40]
        rw [hm, ht]
        rfl
/-- Too many patterns. -/
theorem pTo_full {w : World} {pb g : Nat} {W : List Wd} {c : Nat} {s : Ps} {R : List Value} (hM : MB w pb g W c s R) (hk : lookK s = 1) : onS s (pTo 0) = andP (onS (failS 4 (lookS s)) (oneM 6 toT)) fun _ l => .ok ([], l) := by
  obtain ⟨x, r, rfl, hxk, hn, hls, hx, _⟩ := look_yes hM (by decide) (by decide) hk
  rw [hls]
  have hp : pkW x = 40 := (rel40 x hx).1 hxk
  have hm : pMany 62 pPat 0 (x :: r) = .error (4, x.pos) := by simp [pMany, hn, hp]
  simp only [onS, pTo, hm]
  rfl
/-- One more action. -/
theorem aTo_more {w : World} {pb g : Nat} {W : List Wd} {c : Nat} {s : Ps} {R : List Value} {n : Nat} {es : ES} (hM : MB w pb g W c s R) (hk : lookK s = 1) (v : Ac) (es1 : ES) (hv : ∀ y l, onS (lookS s) (actM es) = .ok (y, l) → y = (v, es1)) (M : List Ac) : preE M (onS s (aTo (n + 1) es)) = preE (M ++ [v]) (onS (stS (onS (lookS s) (actM es))) (aTo n es1)) := by
  obtain ⟨x, r, rfl, hxk, hn, hls, hx, _⟩ := look_yes hM (by decide) (by decide) hk
  rw [hls] at hv ⊢
  have hp : pkW x = 40 := (rel40 x hx).1 hxk
  have ht : takeW 40 (x :: r) = .ok (x, r) := by simp only [takeW, hn, if_pos hp]
  simp only [onS, actM, ht, andP_ok] at hv ⊢
  cases hc : pAct es r with
  | error f =>
    have e : aTo (n + 1) es (x :: r) = .error f := by
      unfold aTo
      rw [pManyS_bad hn (by omega) ht hc]
      rfl
    rw [e]
    rfl
  | ok q =>
    obtain ⟨⟨v', es'⟩, l2⟩ := q
    have e0 := hv _ l2 hc
    injection e0 with e1 e2
    subst e1
    subst e2
    simp only [stS]
    have e : aTo (n + 1) es (x :: r) = preE [v'] (aTo n es' l2) := by
      have h0 := pManyS_step (M := []) (n := n) hn (show pkW x ≠ 41 by omega) ht hc
      have h1 : pManyS 41 pAct (n + 1) es (x :: r) = preE [v'] (pManyS 41 pAct n es' l2) := by
        cases hq : pManyS 41 pAct (n + 1) es (x :: r) with
        | error f => rw [hq] at h0; exact h0
        | ok p => rw [hq] at h0; simpa [preE] using h0
      unfold aTo
      rw [h1]
      cases pManyS 41 pAct n es' l2 with
      | error f => rfl
      | ok p =>
        obtain ⟨vs, l3⟩ := p
        simp only [preE, andP_ok]
        cases takeW 41 l3 <;> rfl
    rw [e]
    cases aTo n es' l2 with
    | error f => rfl
    | ok p => simp [preE]
/-- No more actions. -/
theorem aTo_end {w : World} {pb g : Nat} {W : List Wd} {c : Nat} {s : Ps} {R : List Value} {n : Nat} {es : ES} (hM : MB w pb g W c s R) (hk : lookK s ≠ 1) : onS s (aTo n es) = andP (onS (lookS s) (takeW 41)) fun _ l => .ok (([], es), l) := by
  cases s with
  | error f => rfl
  | ok l =>
    obtain ⟨x, r, rfl, hx, _⟩ := hM.head
    cases hr : nextW (x :: r) with
    | error f =>
      rw [(look_err hr).2]
      simp only [onS, aTo]
      rw [pManyS_err hr]
      rfl
    | ok p =>
      obtain ⟨y, r'⟩ := p
      obtain ⟨rfl, _⟩ := nextW_head hr
      rw [(look_ok hr).1] at hk
      rw [(look_ok hr).2]
      simp only [onS, aTo]
      have h40 : pkW y ≠ 40 := fun e => hk ((rel40 y hx).2 e)
      by_cases h41 : pkW y = 41
      · rw [pManyS_end hr h41, andP_ok]
      · have ht : takeW 41 (y :: r) = .error (3, y.pos) := by simp only [takeW, hr, if_neg h41]
        have hm : pManyS 41 pAct n es (y :: r) = .error (3, y.pos) := by
          cases n with
          | zero => simp [pManyS, hr, h41, h40]
          | succ n => simp [pManyS, hr, h41, takeW, h40]
        rw [hm, ht]
        rfl
/-- Too many actions. -/
theorem aTo_full {w : World} {pb g : Nat} {W : List Wd} {c : Nat} {s : Ps} {R : List Value} {es : ES} (hM : MB w pb g W c s R) (hk : lookK s = 1) : onS s (aTo 0 es) = andP (onS (failS 4 (lookS s)) (takeW 41)) fun _ l => .ok (([], es), l) := by
  obtain ⟨x, r, rfl, hxk, hn, hls, hx, _⟩ := look_yes hM (by decide) (by decide) hk
  rw [hls]
  have hp : pkW x = 40 := (rel40 x hx).1 hxk
  have hm : pManyS 41 pAct 0 es (x :: r) = .error (4, x.pos) := by simp [pManyS, hn, hp]
  simp only [onS, aTo, hm]
  rfl
theorem andP_assoc {α β γ : Type} (r : Px α) (f : α → List Wd → Px β) (k : β → List Wd → Px γ) : andP (andP r f) k = andP r fun x l => andP (f x l) k := by
  cases r with
  | error e => rfl
  | ok q => rfl
/-- The model's rule, its '(' and all. -/
def ruM (l : List Wd) : Px Ru := andP (takeW 40 l) fun _ l1 => pRule l1
def ruT : List Bs := [ruleT]
theorem rule_eq {l : List Wd} (h : GoodL l) : pRule l = andP (oneM 5 ruT l) fun _ l1 => andP (takeW 97 l1) fun nm l2 => andP (takeW 48 l2) fun sl l3 => andP (pTo 6 l3) fun ps l5 => andP (aTo 8 ([], 0) l5) fun q l7 => .ok (⟨mkS (ptW nm), sl.num, ps, q.2.1, q.1⟩, l7) := by
  rw [one_sym h]
  unfold pRule pTo aTo
  simp only [andP_assoc, andP_ok]
  cases takeW 97 l with
  | error f => rfl
  | ok q =>
    obtain ⟨x, r⟩ := q
    simp only [andP_ok]
    by_cases h1 : ptW x = ruleT
    · rw [if_pos h1, if_pos (by rw [h1]; decide), andP_ok]
    · rw [if_neg h1, if_neg (by simp [ruT, h1])]
      rfl
end Go.Proofs.YtdhpoagjmiligaaGreatDoor

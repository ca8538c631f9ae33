/-
  OUR OWN TEXT. Pt10, Rk3, Pt11, Pt12, one behind the other.
-/
import Derived.Test.YtdhpoagjmiligaaGreatDoorKbd
import Derived.Test.YtdhpoagjmiligaaGreatDoorKbb
namespace Go.Proofs.YtdhpoagjmiligaaGreatDoor
open Go.RowKit Go.Maps
attribute [local go_sem ↓] Go.wp_at_zero Go.wp_at_succ

theorem infoRF : (Tryz.prog.info? 46).map (fun i => (i.zero, i.size, i.bytes)) = some (some (.agg #[.string ⟨#[]⟩, .int .i64 0, .slice none 0 0, .slice none 0 0, .slice none 0 0]), 5, 96) := by kernel_rfl
/-- A block of a rule's. -/
def InX (x : RX) (g : Nat) : Prop := x.pv.ownBlock = some g ∨ (∃ y ∈ x.MP, y.2.ownBlock = some g) ∨ x.ev.ownBlock = some g ∨ x.av.ownBlock = some g ∨ ∃ y ∈ x.MA, y.2.ownBlock = some g
theorem ROwn.blk {w : World} {B : Nat} {x : RX} (h : ROwn w B x) {g : Nat} (hg : InX x g) : B ≤ g ∧ g < w.heap.size := by
  rcases hg with hg | ⟨y, hy, hg⟩ | hg | hg | ⟨y, hy, hg⟩
  · exact h.pts.rlt g hg
  · exact h.pts.vlt y hy g hg
  · exact h.exs.lt g hg
  · exact h.acs.rlt g hg
  · exact h.acs.vlt y hy g hg
theorem ROwn.typ {w : World} {B : Nat} {x : RX} (h : ROwn w B x) {g : Nat} (hg : InX x g) : ∃ cs t, w.heap[g]? = some (.cells cs t (0, 0)) ∧ t ≠ 46 := by
  rcases hg with hg | ⟨y, hy, hg⟩ | hg | hg | ⟨y, hy, hg⟩
  · obtain ⟨cs, e⟩ := h.pts.rty g hg; exact ⟨cs, _, e, by decide⟩
  · obtain ⟨cs, e⟩ := h.pts.vty y hy g hg; exact ⟨cs, _, e, by decide⟩
  · obtain ⟨cs, e⟩ := own_type h.exs hg; exact ⟨cs, _, e, by decide⟩
  · obtain ⟨cs, e⟩ := h.acs.rty g hg; exact ⟨cs, _, e, by decide⟩
  · obtain ⟨cs, e⟩ := h.acs.vty y hy g hg; exact ⟨cs, _, e, by decide⟩
theorem ROwn.keep {w w' : World} {B : Nat} {x : RX} (h : ROwn w B x) (hk : ∀ g, InX x g → w'.heap[g]? = w.heap[g]?) : ROwn w' B x :=
  ⟨h.pts.keep (fun g hg => hk g (.inl hg)) (fun y hy g hg => hk g (.inr (.inl ⟨y, hy, hg⟩))), owns_of_block h.exs (fun g hg => hk g (.inr (.inr (.inl hg)))), h.acs.keep (fun g hg => hk g (.inr (.inr (.inr (.inl hg))))) (fun y hy g hg => hk g (.inr (.inr (.inr (.inr ⟨y, hy, hg⟩))))), h.mp, h.ma⟩
theorem ROwn.base {w : World} {B B' : Nat} {x : RX} (h : ROwn w B x) (hb : B' ≤ B) : ROwn w B' x := ⟨h.pts.base hb, owns_base h.exs hb, h.acs.base hb, h.mp, h.ma⟩
theorem ROwn.below {w w' : World} {B : Nat} {x : RX} (h : ROwn w B x) (hb : Below w.heap.size w w') : ROwn w' B x := h.keep (fun g hg => hb.block g (h.blk hg).2)
theorem ROwn.mko {w w' : World} {B pb : Nat} {x : RX} (h : ROwn w B x) (hm : MkO (some pb) w w') (hp : pb < B) : ROwn w' B x := h.keep (fun g hg => hm.block g (h.blk hg).2 (fun e => by injection e with e; have := (h.blk hg).1; omega))
theorem ROwn.grown {w w' : World} {B : Nat} {x : RX} {row : Option Nat} (h : ROwn w B x) (hg : w.grownBy w' row) (ht : ∀ k, row = some k → ∃ cs, w.heap[k]? = some (.cells cs 46 (0, 0))) : ROwn w' B x :=
  h.keep (fun g hx => hg.block g (h.blk hx).2 (fun e => by
    obtain ⟨c1, t1, e1, n1⟩ := h.typ hx
    obtain ⟨c2, e2⟩ := ht g e.symm
    exact ty_ne e1 e2 n1))
/-- A row of rules that is owned, each with rows of its own. -/
structure RRow (w : World) (B : Nat) (a : Option Addr) (c : Nat) (M : List RX) : Prop where
  row : w.ownsRow B 46 5 (.slice a M.length c) M.length (M.flatMap RX.cells)
  all : ∀ x ∈ M, ROwn w B x
  pair : M.Pairwise fun x y => ∀ g, InX x g → ¬ InX y g
theorem RRow.nil (w : World) (B : Nat) : RRow w B none 0 [] := ⟨World.ownsRow_nil _ _ _ _, fun x hx => by simp at hx, List.Pairwise.nil⟩
theorem RRow.mko {w w' : World} {B pb : Nat} {a : Option Addr} {c : Nat} {M : List RX} (h : RRow w B a c M) (hm : MkO (some pb) w w') (hp : pb < B) : RRow w' B a c M := ⟨own_mko h.row hm hp, fun x hx => (h.all x hx).mko hm hp, h.pair⟩
theorem RRow.below {w w' : World} {B : Nat} {a : Option Addr} {c : Nat} {M : List RX} (h : RRow w B a c M) (hb : Below w.heap.size w w') : RRow w' B a c M := ⟨own_bel h.row hb, fun x hx => (h.all x hx).below hb, h.pair⟩
/-- A rule whose rows are newer stands apart. -/
theorem RRow.newer {w w' : World} {B C : Nat} {a : Option Addr} {c : Nat} {M : List RX} {v : RX} (h : RRow w B a c M) (hC : w.heap.size ≤ C) (hv : ROwn w' C v) : (M ++ [v]).Pairwise fun x y => ∀ g, InX x g → ¬ InX y g :=
  List.pairwise_append.2 ⟨h.pair, by simp, fun x hx y hy g hg hg' => by
    simp at hy
    subst hy
    have h3 := ((h.all x hx).blk hg).2
    have h4 := (hv.blk hg').1
    omega⟩
theorem RX.cells_one (x : RX) : ∀ v ∈ x.cells, v.oneCell' = true := ruL_one _ _ _ _ _ _ _ _ _ _ _
def lenR (pb : Nat) (w : World) : Nat := match w.cell? ⟨pb, 4, none⟩ with
  | some v => sliceLen v
  | none => 0
/-- What all rules leave. -/
def SrcPost (w : World) (pb : Nat) (src : Bs) (a : Option Addr) (c : Nat) (am cm lv : Value) (r : Px (List Ru)) (e : Ending) (w' : World) : Prop := MkO (some pb) w w' ∧ match r with
  | .error f => e = fltE f
  | .ok (vs, l) => e = .returned (.tuple #[]) ∧ ∃ ra rc M ev bv, M.map RX.ru = vs ∧ RRow w' w.heap.size ra rc M ∧ PSt w' pb src a c l (RL am cm (.slice ra M.length rc) lv ev bv)
theorem SrcPost.err {w w' : World} {pb : Nat} {src : Bs} {a : Option Addr} {c : Nat} {am cm lv : Value} {r : Px (List Ru)} {f : Flt} (hr : r = .error f) (hm : MkO (some pb) w w') : SrcPost w pb src a c am cm lv r (fltE f) w' := by
  subst hr
  exact ⟨hm, rfl⟩
set_option maxRecDepth 100000 in
set_option maxHeartbeats 6400000 in
theorem source_any (w : World) (pb mb : Nat) (src : Bs) (a : Option Addr) (c : Nat) (l : List Wd) (cm lv ev0 bv0 : Value) (h : PSt w pb src a c l (RL (.map (some mb)) cm (.slice none 0 0) lv ev0 bv0)) (hM : FnMap w pb mb actF) (hne : pb < mb) : Calls Tryz.prog 24 #[.pointer (some ⟨pb, 0, none⟩)] w (SrcPost w pb src a c (.map (some mb)) cm lv (pRules l)) := by
  have HP := hidX h
  have HM := hidX hM
  have hpb := h.lt
  clear h hM
  go_enter Tryz.func24, Tryz.ntmps24
  go_wp2_with fail
  go_loopw [2] (fun _ wr => ∃ (ra : Option Addr) (rc n : Nat) (M : List RX) (l' : List Wd) (ev bv : Value), M.length + n = 16 ∧ RRow wr w.heap.size ra rc M ∧ PSt wr pb src a c l' (RL (.map (some mb)) cm (.slice ra M.length rc) lv ev bv) ∧ MkO (some pb) w wr ∧ pRules l = preL (M.map RX.ru) (pMany 0 pRule n l')) (fun _ wr => 16 - lenR pb wr)
  case atStart => exact ⟨none, 0, 16, [], l, ev0, bv0, rfl, RRow.nil _ _, HP.out, MkO.refl _ _, by unfold pRules preL; cases pMany 0 pRule 16 l <;> rfl⟩
  case round =>
    obtain ⟨la, lc, n, M, l', ev, bv, hMn, hco, hps, hmk, hpl⟩ := hrel
    have OW := hidX hco
    have PS := hidX hps
    have MK := hidX hmk
    have PL := hidX hpl
    have HAH := hidX (ahead_any wr pb src a c l' _ 0 hps)
    have c5 : wr.cell? ⟨pb, 4, none⟩ = some (.slice la M.length lc) := hps.cell (j := 2) rfl
    have HML : Hid (lenR pb wr = M.length) := show _ = _ from by unfold lenR; rw [c5]; rfl
    clear hco hps hmk hpl
    cases hr : nextW l' with
    | error f =>
      have HT : Hid (pRules l = .error f) := show _ = _ from by rw [PL.out, pMany_err hr]; rfl
      rw [hr] at HAH
      go_wp2_with (first | (go_at_call 48; refine HAH.out.mono ?_; rintro e w2 ⟨hb2, rfl⟩; unfold fltE) | fail)
      exact ⟨rfl, SrcPost.err HT.out (MK.out.trans (MkO.of_below hb2))⟩
    | ok p =>
      obtain ⟨x, r⟩ := p
      rw [hr] at HAH
      by_cases hx : pkW x = 0
      · have HT : Hid (pRules l = .ok (M.map RX.ru, l')) := show _ = _ from by rw [PL.out, pMany_end hr hx]; simp [preL]
        replace HAH : Hid (Calls Tryz.prog 48 #[.pointer (some ⟨pb, 0, none⟩), .int .i32 0] wr fun e w' => Below wr.heap.size wr w' ∧ e = .returned (.bool true)) := by
          rw [← decide_eq_true hx]
          exact HAH
        clear hx
        go_wp2_with (first | (go_at_call 48; refine HAH.out.mono ?_; rintro e w2 ⟨hb2, rfl⟩) | fail)
        refine bodyPost_end (results_none rfl _ _ _) rfl ⟨MK.out.trans (MkO.of_below hb2), ?_⟩
        rw [HT.out]
        exact ⟨rfl, la, lc, M, ev, bv, rfl, OW.out.mko (MkO.of_below hb2) hpb, PS.out.below hb2⟩
      · replace HAH : Hid (Calls Tryz.prog 48 #[.pointer (some ⟨pb, 0, none⟩), .int .i32 0] wr fun e w' => Below wr.heap.size wr w' ∧ e = .returned (.bool false)) := by
          rw [← decide_eq_false hx]
          exact HAH
        have HOP := hidX (fun u (hu : Below wr.heap.size wr u) => open_any u pb src a c l' _ (M.length : Int) 16 (PS.out.below hu))
        have hnM : (M.length : Int) = ((16 - n : Nat) : Int) := by omega
        cases ho : openW (M.length : Int) 16 l' with
        | error f =>
          have HT : Hid (pRules l = .error f) := show _ = _ from by rw [PL.out, pMany_open (n := n) (m := 16) hr hx (by omega) (by rw [← hnM]; exact ho)]; rfl
          rw [ho] at HOP
          clear hx hnM ho
          go_upto_region 1 with (first | (go_at_call 48; refine HAH.out.mono ?_; rintro e w2 ⟨hb2, rfl⟩) | fail)
          have d5 := cell_below hb2 c5
          go_wp2_with (first | (go_at_call 49; refine (HOP.out _ hb2).mono ?_; rintro e w3 ⟨hm3, rfl⟩; unfold fltE) | fail)
          exact ⟨rfl, SrcPost.err HT.out ((MK.out.trans (MkO.of_below hb2)).trans hm3)⟩
        | ok p =>
          obtain ⟨y, l1⟩ := p
          obtain ⟨n, rfl, htk⟩ := pMany_more (n := n) (m := 16) hr (by omega) (by rw [← hnM]; exact ho)
          rw [ho] at HOP
          clear hnM ho
          have HCM := hidX (fun u (hu : PSt u pb src a c l1 (RL (.map (some mb)) cm (.slice la M.length lc) lv ev bv)) (hm : MkO (some pb) w u) => prule_any u pb mb src a c l1 _ _ _ _ _ hu (HM.out.mko hm (Nat.ne_of_lt hne)) hne)
          go_upto_region 1 with (first | (go_at_call 48; refine HAH.out.mono ?_; rintro e w2 ⟨hb2, rfl⟩) | fail)
          have d5 := cell_below hb2 c5
          go_upto_region 2 with (first | (go_at_call 49; refine (HOP.out _ hb2).mono ?_; rintro e w3 ⟨hm3, rfl, hp3⟩) | fail)
          have M3 := hidX ((MK.out.trans (MkO.of_below hb2)).trans hm3)
          have O3 := hidX ((OW.out.mko (MkO.of_below hb2) hpb).mko hm3 hpb)
          have P3 := hidX hp3
          have e5 : w3.cell? ⟨pb, 4, none⟩ = some (.slice la M.length lc) := hp3.cell (j := 2) rfl
          clear hm3 hp3 hb2 d5 c5 HOP HAH
          cases hc : pRule l1 with
          | error f =>
            have HT : Hid (pRules l = .error f) := show _ = _ from by rw [PL.out, pMany_bad hr hx htk hc]; rfl
            rw [hc] at HCM
            clear hx
            refine wp_region_pa (fun ch u => SrcPost w pb src a c (.map (some mb)) cm lv (pRules l) (.panicked ch) u) (fun _ _ _ h1 h2 => ⟨h1, h2⟩) ?_
            refine wp_region_held_drew (S := (fun _ => True)) (by kernel_rfl) ?_ (fun hHeld => ?_)
            · trivial
            refine tkP 0 hHeld ?_
            (try simp only [pA, pZ, pS])
            refine tkP 1 hHeld ?_
            (try simp only [pA, pZ, pS])
            refine tkP 2 hHeld ?_
            (try simp only [pA, pZ, pS])
            refine tkP 3 hHeld ?_
            (try simp only [pA, pZ, pS])
            refine tkP 5 hHeld ?_
            (try simp only [pA, pZ, pS])
            refine wpAnyH_ready (rs := [4, 6]) (by kernel_rfl) (by simp) ?_
            refine AllReadyH.cons (o := ?o1) ?ho1 (fun K hK => ?step1) (AllReadyH.cons (o := ?o2) ?ho2 (fun K hK => ?step2) AllReadyH.nil)
            case ho1 => (simp only [List.getElem?_toArray, List.getElem?_cons_succ, List.getElem?_cons_zero]; rfl)
            case ho2 => (simp only [List.getElem?_toArray, List.getElem?_cons_succ, List.getElem?_cons_zero]; rfl)
            case step1 =>
              go_simp
              refine hK.out _ _ ?hS3 (fun hHeld' => ?rest3)
              case hS3 => ((try dsimp only); all_goals trivial)
              clear hK K
              (try simp only [pA, pZ, pS])
              clear hHeld
              have hHeld := hHeld'
              clear hHeld'
              refine wpAnyH_ready (rs := [6]) (by kernel_rfl) (by simp) ?_
              refine AllReadyH.cons (o := ?o4) ?ho4 (fun K hK => ?step4) AllReadyH.nil
              case ho4 => (simp only [List.getElem?_toArray, List.getElem?_cons_succ, List.getElem?_cons_zero]; rfl)
              go_simp
              (go_at_call 50; refine (HCM.out _ (P3.out.below ((Below.refl _ _).drew)) M3.out.drew).mono ?_; rintro e w4 ⟨hm4, rfl⟩; unfold fltE)
              go_wp2_with fail
              exact ⟨rfl, SrcPost.err HT.out (M3.out.drew.trans hm4)⟩
            case step2 =>
              go_simp
              (go_at_call 50; refine (HCM.out _ (P3.out.below ((Below.refl _ _).drew)) M3.out.drew).mono ?_; rintro e w4 ⟨hm4, rfl⟩; unfold fltE)
              go_wp2_with fail
              exact ⟨rfl, SrcPost.err HT.out (M3.out.drew.trans hm4)⟩
          | ok q =>
            obtain ⟨v, l2⟩ := q
            have PL2 := hidX (PL.out.trans (pMany_step (M := M.map RX.ru) hr hx htk hc))
            rw [hc] at HCM
            clear hx
            refine wp_region_noPanic ?_
            refine wp_region_held_drew (S := (fun _ => True)) (by kernel_rfl) ?_ (fun hHeld => ?_)
            · (try dsimp only)
              all_goals trivial
            refine tk 0 hHeld ?_
            (try simp only [pA, pZ, pS])
            refine tk 1 hHeld ?_
            (try simp only [pA, pZ, pS])
            refine tk 2 hHeld ?_
            (try simp only [pA, pZ, pS])
            refine tk 3 hHeld ?_
            (try simp only [pA, pZ, pS])
            refine tk 5 hHeld ?_
            (try simp only [pA, pZ, pS])
            refine wpAnyH_ready (rs := [4, 6]) (by kernel_rfl) (by simp) ?_
            refine AllReadyH.cons (o := ?o5) ?ho5 (fun K hK => ?step5) (AllReadyH.cons (o := ?o6) ?ho6 (fun K hK => ?step6) AllReadyH.nil)
            case ho5 => (simp only [List.getElem?_toArray, List.getElem?_cons_succ, List.getElem?_cons_zero]; rfl)
            case ho6 => (simp only [List.getElem?_toArray, List.getElem?_cons_succ, List.getElem?_cons_zero]; rfl)
            case step5 =>
              go_simp
              refine hK.out _ _ ?hS7 (fun hHeld' => ?rest7)
              case hS7 => ((try dsimp only); all_goals trivial)
              clear hK K
              (try simp only [pA, pZ, pS])
              clear hHeld
              have hHeld := hHeld'
              clear hHeld'
              refine wpAnyH_ready (rs := [6]) (by kernel_rfl) (by simp) ?_
              refine AllReadyH.cons (o := ?o8) ?ho8 (fun K hK => ?step8) AllReadyH.nil
              case ho8 => (simp only [List.getElem?_toArray, List.getElem?_cons_succ, List.getElem?_cons_zero]; rfl)
              go_simp
              (go_at_call 50; refine (HCM.out _ (P3.out.below ((Below.refl _ _).drew)) M3.out.drew).mono ?_; rintro e w4 ⟨hm4, xr, hru, rfl, ho4, ev4, bv4, hp4⟩; replace hru := hidX hru; have e54 : w4.cell? ⟨pb, 4, none⟩ = some (.slice la M.length lc) := hp4.cell (j := 2) rfl)
              refine hK.out _ _ ?hS9 (fun hHeld' => ?rest9)
              case hS9 => ((try dsimp only); all_goals trivial)
              clear hK K
              (try simp only [pA, pZ, pS])
              clear hHeld
              have hHeld := hHeld'
              clear hHeld'
              refine wpAnyH_ready (rs := [7]) (by kernel_rfl) (by simp) ?_
              refine AllReadyH.cons (o := ?o10) ?ho10 (fun K hK => ?step10) AllReadyH.nil
              case ho10 => (simp only [List.getElem?_toArray, List.getElem?_cons_succ, List.getElem?_cons_zero]; rfl)
              go_simp
              have HA4 := hidX (fun o' => (Below.refl _ _).alloc (Nat.le_refl _) o' : ∀ o', Below w4.heap.size w4 (w4.alloc o')); have e54a : ∀ o', (w4.alloc o').cell? ⟨pb, 4, none⟩ = some (.slice la M.length lc) := fun o' => cell_below (HA4.out o') e54
              refine hK.out _ _ ?hS11 (fun hHeld' => ?rest11)
              case hS11 => ((try dsimp only); all_goals trivial)
              clear hK K
              (try simp only [pA, pZ, pS])
              clear hHeld
              have hHeld := hHeld'
              clear hHeld'
              have M4 := hidX (M3.out.drew.trans hm4)
              have hs4 := M4.out.rest.size
              have OA := hidX (fun o' => (((O3.out.mko (MkO.of_below ((Below.refl _ _).drew)) hpb).mko hm4 hpb).mko (MkO.of_below (HA4.out o')) hpb : RRow (w4.alloc o') w.heap.size la lc M))
              have NX := hidX (ho4.base (show w.heap.size ≤ _ by have := M3.out.rest.size; simpa using this))
              refine wpAnyH_ready (rs := [8]) (by kernel_rfl) (by simp) ?_
              refine AllReadyH.cons (o := ?o12) ?ho12 (fun K hK => ?step12) AllReadyH.nil
              case ho12 => (simp only [List.getElem?_toArray, List.getElem?_cons_succ, List.getElem?_cons_zero]; rfl)
              (refine step_append_any (by rfl) (.tmp 16) (.tmp 19) 23 (by rfl) w.heap.size 46 _ 5 96 Tryz.underlying23 infoRF (by rfl) (by omega) _ M.length _ (by rfl) (OA.out _).row (some ⟨_, 0, none⟩) 1 1 (by rfl) xr.cells (by rfl) (fun e => by cases e) (news_new _ _ _ _ (by simp)) xr.cells_one (by unfold maxLen; omega) (by omega) (by simp; omega) ?_; intro a8 c8 w8 ho8 hg8 hl8)
              refine hK.out _ _ ?hS13 (fun hHeld' => ?rest13)
              case hS13 => ((try dsimp only); all_goals trivial)
              clear hK K
              (try simp only [pA, pZ, pS])
              clear hHeld
              have hHeld := hHeld'
              clear hHeld'
              have hrow : ∀ k, (Value.slice la M.length lc).ownBlock = some k → w.heap.size ≤ k := fun k hk => (O3.out.row.lt k hk).1
              have TY := hidX (fun o' g hg => own_type (OA.out o').row (k := g) hg)
              have M8 := hidX ((M4.out.trans (MkO.of_below (HA4.out _))).grown hg8.out hrow)
              have P8 := hidX ((hp4.below (HA4.out _)).keep ((Below.refl _ _).grown hg8.out (by simp; omega) (fun k hk => by have := hrow k hk; omega)))
              have C8 := hidX (show RRow w8 w.heap.size a8 c8 (M ++ [xr]) from ⟨by simpa using ho8.out, fun x hx => by
                rcases List.mem_append.1 hx with hx | hx
                · exact ((OA.out _).all x hx).grown hg8.out (TY.out _)
                · simp at hx
                  subst hx
                  exact (NX.out.mko (MkO.of_below (HA4.out _)) hpb).grown hg8.out (TY.out _), O3.out.newer (Nat.le_refl _) ho4⟩)
              have f5 : w8.cell? ⟨pb, 4, none⟩ = some (.slice la M.length lc) := P8.out.cell (j := 2) rfl
              have g5 : w8.frozen? ⟨pb, 4, none⟩ = false := by
                obtain ⟨k', hs'⟩ := P8.out.sc
                simp [World.frozen?, hs'.blk]
              refine tk 9 hHeld ?_
              (try simp only [pA, pZ, pS])
              refine tk 10 hHeld ?_
              (try simp only [pA, pZ, pS])
              refine wpAnyH_ready (rs := [11]) (by kernel_rfl) (by simp) ?_
              refine AllReadyH.cons (o := ?o14) ?ho14 (fun K hK => ?step14) AllReadyH.nil
              case ho14 => (simp only [List.getElem?_toArray, List.getElem?_cons_succ, List.getElem?_cons_zero]; rfl)
              go_simp
              refine hK.out _ _ ?hS15 (fun hHeld' => ?rest15)
              case hS15 => ((try dsimp only); all_goals trivial)
              clear hK K
              (try dsimp only)
              clear hHeld
              have hHeld := hHeld'
              clear hHeld'
              refine wpAnyH_done (by kernel_rfl) ?_ _
              refine NoPanic.normal ?_
              have P9 := hidX (P8.out.cellSet (j := 2) (v := .slice a8 (M.length + 1) c8) rfl)
              have M9 := hidX (MkO.set (w := w8) (g := pb) (o := 4) (.slice a8 (M.length + 1) c8))
              have C9 := hidX (C8.out.mko M9.out hpb)
              clear hHeld
              go_wp2_with fail
              go_roundw
              case rel => exact ⟨a8, c8, n, M ++ [xr], l2, ev4, bv4, by simp; omega, C9.out, by simpa [RL] using P9.out, M8.out.trans M9.out, by simpa [hru.out] using PL2.out⟩
              case measure =>
                have hL9 : lenR pb (w8.setCell ⟨pb, 4, none⟩ (.slice a8 (M.length + 1) c8)) = M.length + 1 := by
                  unfold lenR
                  rw [P9.out.cell (j := 2) rfl]
                  rfl
                change 16 - lenR pb (w8.setCell ⟨pb, 4, none⟩ (.slice a8 (M.length + 1) c8)) < 16 - lenR pb wr
                rw [hL9, HML.out]
                omega
            case step6 =>
              go_simp
              (go_at_call 50; refine (HCM.out _ (P3.out.below ((Below.refl _ _).drew)) M3.out.drew).mono ?_; rintro e w4 ⟨hm4, xr, hru, rfl, ho4, ev4, bv4, hp4⟩; replace hru := hidX hru; have e54 : w4.cell? ⟨pb, 4, none⟩ = some (.slice la M.length lc) := hp4.cell (j := 2) rfl)
              refine hK.out _ _ ?hS16 (fun hHeld' => ?rest16)
              case hS16 => ((try dsimp only); all_goals trivial)
              clear hK K
              (try simp only [pA, pZ, pS])
              clear hHeld
              have hHeld := hHeld'
              clear hHeld'
              refine wpAnyH_ready (rs := [4, 7]) (by kernel_rfl) (by simp) ?_
              refine AllReadyH.cons (o := ?o17) ?ho17 (fun K hK => ?step17) (AllReadyH.cons (o := ?o18) ?ho18 (fun K hK => ?step18) AllReadyH.nil)
              case ho17 => (simp only [List.getElem?_toArray, List.getElem?_cons_succ, List.getElem?_cons_zero]; rfl)
              case ho18 => (simp only [List.getElem?_toArray, List.getElem?_cons_succ, List.getElem?_cons_zero]; rfl)
              case step17 =>
                go_simp
                refine hK.out _ _ ?hS19 (fun hHeld' => ?rest19)
                case hS19 => ((try dsimp only); all_goals trivial)
                clear hK K
                (try simp only [pA, pZ, pS])
                clear hHeld
                have hHeld := hHeld'
                clear hHeld'
                refine wpAnyH_ready (rs := [7]) (by kernel_rfl) (by simp) ?_
                refine AllReadyH.cons (o := ?o20) ?ho20 (fun K hK => ?step20) AllReadyH.nil
                case ho20 => (simp only [List.getElem?_toArray, List.getElem?_cons_succ, List.getElem?_cons_zero]; rfl)
                go_simp
                have HA4 := hidX (fun o' => (Below.refl _ _).alloc (Nat.le_refl _) o' : ∀ o', Below w4.heap.size w4 (w4.alloc o')); have e54a : ∀ o', (w4.alloc o').cell? ⟨pb, 4, none⟩ = some (.slice la M.length lc) := fun o' => cell_below (HA4.out o') e54
                refine hK.out _ _ ?hS21 (fun hHeld' => ?rest21)
                case hS21 => ((try dsimp only); all_goals trivial)
                clear hK K
                (try simp only [pA, pZ, pS])
                clear hHeld
                have hHeld := hHeld'
                clear hHeld'
                have M4 := hidX (M3.out.drew.trans hm4)
                have hs4 := M4.out.rest.size
                have OA := hidX (fun o' => (((O3.out.mko (MkO.of_below ((Below.refl _ _).drew)) hpb).mko hm4 hpb).mko (MkO.of_below (HA4.out o')) hpb : RRow (w4.alloc o') w.heap.size la lc M))
                have NX := hidX (ho4.base (show w.heap.size ≤ _ by have := M3.out.rest.size; simpa using this))
                refine wpAnyH_ready (rs := [8]) (by kernel_rfl) (by simp) ?_
                refine AllReadyH.cons (o := ?o22) ?ho22 (fun K hK => ?step22) AllReadyH.nil
                case ho22 => (simp only [List.getElem?_toArray, List.getElem?_cons_succ, List.getElem?_cons_zero]; rfl)
                (refine step_append_any (by rfl) (.tmp 16) (.tmp 19) 23 (by rfl) w.heap.size 46 _ 5 96 Tryz.underlying23 infoRF (by rfl) (by omega) _ M.length _ (by rfl) (OA.out _).row (some ⟨_, 0, none⟩) 1 1 (by rfl) xr.cells (by rfl) (fun e => by cases e) (news_new _ _ _ _ (by simp)) xr.cells_one (by unfold maxLen; omega) (by omega) (by simp; omega) ?_; intro a8 c8 w8 ho8 hg8 hl8)
                refine hK.out _ _ ?hS23 (fun hHeld' => ?rest23)
                case hS23 => ((try dsimp only); all_goals trivial)
                clear hK K
                (try simp only [pA, pZ, pS])
                clear hHeld
                have hHeld := hHeld'
                clear hHeld'
                have hrow : ∀ k, (Value.slice la M.length lc).ownBlock = some k → w.heap.size ≤ k := fun k hk => (O3.out.row.lt k hk).1
                have TY := hidX (fun o' g hg => own_type (OA.out o').row (k := g) hg)
                have M8 := hidX ((M4.out.trans (MkO.of_below (HA4.out _))).grown hg8.out hrow)
                have P8 := hidX ((hp4.below (HA4.out _)).keep ((Below.refl _ _).grown hg8.out (by simp; omega) (fun k hk => by have := hrow k hk; omega)))
                have C8 := hidX (show RRow w8 w.heap.size a8 c8 (M ++ [xr]) from ⟨by simpa using ho8.out, fun x hx => by
                  rcases List.mem_append.1 hx with hx | hx
                  · exact ((OA.out _).all x hx).grown hg8.out (TY.out _)
                  · simp at hx
                    subst hx
                    exact (NX.out.mko (MkO.of_below (HA4.out _)) hpb).grown hg8.out (TY.out _), O3.out.newer (Nat.le_refl _) ho4⟩)
                have f5 : w8.cell? ⟨pb, 4, none⟩ = some (.slice la M.length lc) := P8.out.cell (j := 2) rfl
                have g5 : w8.frozen? ⟨pb, 4, none⟩ = false := by
                  obtain ⟨k', hs'⟩ := P8.out.sc
                  simp [World.frozen?, hs'.blk]
                refine tk 9 hHeld ?_
                (try simp only [pA, pZ, pS])
                refine tk 10 hHeld ?_
                (try simp only [pA, pZ, pS])
                refine wpAnyH_ready (rs := [11]) (by kernel_rfl) (by simp) ?_
                refine AllReadyH.cons (o := ?o24) ?ho24 (fun K hK => ?step24) AllReadyH.nil
                case ho24 => (simp only [List.getElem?_toArray, List.getElem?_cons_succ, List.getElem?_cons_zero]; rfl)
                go_simp
                refine hK.out _ _ ?hS25 (fun hHeld' => ?rest25)
                case hS25 => ((try dsimp only); all_goals trivial)
                clear hK K
                (try dsimp only)
                clear hHeld
                have hHeld := hHeld'
                clear hHeld'
                refine wpAnyH_done (by kernel_rfl) ?_ _
                refine NoPanic.normal ?_
                have P9 := hidX (P8.out.cellSet (j := 2) (v := .slice a8 (M.length + 1) c8) rfl)
                have M9 := hidX (MkO.set (w := w8) (g := pb) (o := 4) (.slice a8 (M.length + 1) c8))
                have C9 := hidX (C8.out.mko M9.out hpb)
                clear hHeld
                go_wp2_with fail
                go_roundw
                case rel => exact ⟨a8, c8, n, M ++ [xr], l2, ev4, bv4, by simp; omega, C9.out, by simpa [RL] using P9.out, M8.out.trans M9.out, by simpa [hru.out] using PL2.out⟩
                case measure =>
                  have hL9 : lenR pb (w8.setCell ⟨pb, 4, none⟩ (.slice a8 (M.length + 1) c8)) = M.length + 1 := by
                    unfold lenR
                    rw [P9.out.cell (j := 2) rfl]
                    rfl
                  change 16 - lenR pb (w8.setCell ⟨pb, 4, none⟩ (.slice a8 (M.length + 1) c8)) < 16 - lenR pb wr
                  rw [hL9, HML.out]
                  omega
              case step18 =>
                go_simp
                have HA4 := hidX (fun o' => (Below.refl _ _).alloc (Nat.le_refl _) o' : ∀ o', Below w4.heap.size w4 (w4.alloc o')); have e54a : ∀ o', (w4.alloc o').cell? ⟨pb, 4, none⟩ = some (.slice la M.length lc) := fun o' => cell_below (HA4.out o') e54
                refine hK.out _ _ ?hS26 (fun hHeld' => ?rest26)
                case hS26 => ((try dsimp only); all_goals trivial)
                clear hK K
                (try simp only [pA, pZ, pS])
                clear hHeld
                have hHeld := hHeld'
                clear hHeld'
                refine wpAnyH_ready (rs := [4]) (by kernel_rfl) (by simp) ?_
                refine AllReadyH.cons (o := ?o27) ?ho27 (fun K hK => ?step27) AllReadyH.nil
                case ho27 => (simp only [List.getElem?_toArray, List.getElem?_cons_succ, List.getElem?_cons_zero]; rfl)
                go_simp
                refine hK.out _ _ ?hS28 (fun hHeld' => ?rest28)
                case hS28 => ((try dsimp only); all_goals trivial)
                clear hK K
                (try simp only [pA, pZ, pS])
                clear hHeld
                have hHeld := hHeld'
                clear hHeld'
                have M4 := hidX (M3.out.drew.trans hm4)
                have hs4 := M4.out.rest.size
                have OA := hidX (fun o' => (((O3.out.mko (MkO.of_below ((Below.refl _ _).drew)) hpb).mko hm4 hpb).mko (MkO.of_below (HA4.out o')) hpb : RRow (w4.alloc o') w.heap.size la lc M))
                have NX := hidX (ho4.base (show w.heap.size ≤ _ by have := M3.out.rest.size; simpa using this))
                refine wpAnyH_ready (rs := [8]) (by kernel_rfl) (by simp) ?_
                refine AllReadyH.cons (o := ?o29) ?ho29 (fun K hK => ?step29) AllReadyH.nil
                case ho29 => (simp only [List.getElem?_toArray, List.getElem?_cons_succ, List.getElem?_cons_zero]; rfl)
                (refine step_append_any (by rfl) (.tmp 16) (.tmp 19) 23 (by rfl) w.heap.size 46 _ 5 96 Tryz.underlying23 infoRF (by rfl) (by omega) _ M.length _ (by rfl) (OA.out _).row (some ⟨_, 0, none⟩) 1 1 (by rfl) xr.cells (by rfl) (fun e => by cases e) (news_new _ _ _ _ (by simp)) xr.cells_one (by unfold maxLen; omega) (by omega) (by simp; omega) ?_; intro a8 c8 w8 ho8 hg8 hl8)
                refine hK.out _ _ ?hS30 (fun hHeld' => ?rest30)
                case hS30 => ((try dsimp only); all_goals trivial)
                clear hK K
                (try simp only [pA, pZ, pS])
                clear hHeld
                have hHeld := hHeld'
                clear hHeld'
                have hrow : ∀ k, (Value.slice la M.length lc).ownBlock = some k → w.heap.size ≤ k := fun k hk => (O3.out.row.lt k hk).1
                have TY := hidX (fun o' g hg => own_type (OA.out o').row (k := g) hg)
                have M8 := hidX ((M4.out.trans (MkO.of_below (HA4.out _))).grown hg8.out hrow)
                have P8 := hidX ((hp4.below (HA4.out _)).keep ((Below.refl _ _).grown hg8.out (by simp; omega) (fun k hk => by have := hrow k hk; omega)))
                have C8 := hidX (show RRow w8 w.heap.size a8 c8 (M ++ [xr]) from ⟨by simpa using ho8.out, fun x hx => by
                  rcases List.mem_append.1 hx with hx | hx
                  · exact ((OA.out _).all x hx).grown hg8.out (TY.out _)
                  · simp at hx
                    subst hx
                    exact (NX.out.mko (MkO.of_below (HA4.out _)) hpb).grown hg8.out (TY.out _), O3.out.newer (Nat.le_refl _) ho4⟩)
                have f5 : w8.cell? ⟨pb, 4, none⟩ = some (.slice la M.length lc) := P8.out.cell (j := 2) rfl
                have g5 : w8.frozen? ⟨pb, 4, none⟩ = false := by
                  obtain ⟨k', hs'⟩ := P8.out.sc
                  simp [World.frozen?, hs'.blk]
                refine tk 9 hHeld ?_
                (try simp only [pA, pZ, pS])
                refine tk 10 hHeld ?_
                (try simp only [pA, pZ, pS])
                refine wpAnyH_ready (rs := [11]) (by kernel_rfl) (by simp) ?_
                refine AllReadyH.cons (o := ?o31) ?ho31 (fun K hK => ?step31) AllReadyH.nil
                case ho31 => (simp only [List.getElem?_toArray, List.getElem?_cons_succ, List.getElem?_cons_zero]; rfl)
                go_simp
                refine hK.out _ _ ?hS32 (fun hHeld' => ?rest32)
                case hS32 => ((try dsimp only); all_goals trivial)
                clear hK K
                (try dsimp only)
                clear hHeld
                have hHeld := hHeld'
                clear hHeld'
                refine wpAnyH_done (by kernel_rfl) ?_ _
                refine NoPanic.normal ?_
                have P9 := hidX (P8.out.cellSet (j := 2) (v := .slice a8 (M.length + 1) c8) rfl)
                have M9 := hidX (MkO.set (w := w8) (g := pb) (o := 4) (.slice a8 (M.length + 1) c8))
                have C9 := hidX (C8.out.mko M9.out hpb)
                clear hHeld
                go_wp2_with fail
                go_roundw
                case rel => exact ⟨a8, c8, n, M ++ [xr], l2, ev4, bv4, by simp; omega, C9.out, by simpa [RL] using P9.out, M8.out.trans M9.out, by simpa [hru.out] using PL2.out⟩
                case measure =>
                  have hL9 : lenR pb (w8.setCell ⟨pb, 4, none⟩ (.slice a8 (M.length + 1) c8)) = M.length + 1 := by
                    unfold lenR
                    rw [P9.out.cell (j := 2) rfl]
                    rfl
                  change 16 - lenR pb (w8.setCell ⟨pb, 4, none⟩ (.slice a8 (M.length + 1) c8)) < 16 - lenR pb wr
                  rw [hL9, HML.out]
                  omega
end Go.Proofs.YtdhpoagjmiligaaGreatDoor

namespace Go.Proofs.YtdhpoagjmiligaaGreatDoor
open Go.RowKit
attribute [local go_sem ↓] Go.wp_at_zero Go.wp_at_succ

def mkR (k : Int) (r : Ru) : Ru := ⟨mText k, k + 1, gMk mkP szP (k + 1 + 1) r.pats, gMk mkE (fun _ => 8) (k + 1 + 1 + (gSum szP r.pats : Int)) r.exprs, gMk mkA szA (k + 1 + 1 + (gSum szP r.pats : Int) + (gSum (fun _ => 8) r.exprs : Int)) r.acts⟩
def szR (r : Ru) : Nat := 2 + gSum szP r.pats + gSum (fun _ => 8) r.exprs + gSum szA r.acts
def mkRX (k : Int) (x : RX) : RX := ⟨mkR k x.ru, x.pa, x.pc, gMk mkPV szPV (k + 1 + 1) x.MP, x.ea, x.ec, x.aa, x.ac, gMk mkAV szAV (k + 1 + 1 + (gSum szP x.ru.pats : Int) + (gSum (fun _ => 8) x.ru.exprs : Int)) x.MA⟩
def szRX (x : RX) : Nat := szR x.ru
theorem gMk_keeps {β γ : Type} {mk : Int → β → β} {sz : β → Nat} {f : β → γ} (hf : ∀ k x, f (mk k x) = f x) : ∀ (l : List β) (k : Int), (gMk mk sz k l).map f = l.map f
  | [], _ => rfl
  | y :: r, k => by rw [gMk, List.map_cons, List.map_cons, hf, gMk_keeps hf r]
theorem mem_snd {α : Type} {M N : List (α × Value)} (h : M.map Prod.snd = N.map Prod.snd) {P : Value → Prop} : (∃ y ∈ M, P y.2) → ∃ y ∈ N, P y.2 := fun ⟨y, hy, hp⟩ => by
  have h1 : y.2 ∈ N.map Prod.snd := h ▸ List.mem_map_of_mem hy
  obtain ⟨z, hz, e⟩ := List.mem_map.1 h1
  exact ⟨z, hz, e ▸ hp⟩
theorem mkRX_pv (k : Int) (x : RX) : (mkRX k x).pv = x.pv := by
  show Value.slice x.pa (gMk mkPV szPV (k + 1 + 1) x.MP).length x.pc = _
  rw [gMk_len]
  rfl
theorem mkRX_ev (k : Int) (x : RX) : (mkRX k x).ev = x.ev := by
  show Value.slice x.ea (mkR k x.ru).exprs.length x.ec = _
  rw [show (mkR k x.ru).exprs.length = x.ru.exprs.length from gMk_len _ _ _ _]
  rfl
theorem mkRX_av (k : Int) (x : RX) : (mkRX k x).av = x.av := by
  show Value.slice x.aa (mkRX k x).MA.length x.ac = _
  rw [show (mkRX k x).MA.length = x.MA.length from gMk_len _ _ _ _]
  rfl
theorem mkRX_in {k : Int} {x : RX} {g : Nat} (h : InX (mkRX k x) g) : InX x g := by
  unfold InX at h ⊢
  rw [mkRX_pv, mkRX_ev, mkRX_av] at h
  rcases h with h | h | h | h | h
  · exact .inl h
  · exact .inr (.inl (mem_snd (gMk_keeps (mk := mkPV) (sz := szPV) (f := Prod.snd) (fun _ _ => rfl) x.MP _) (P := fun v => v.ownBlock = some g) h))
  · exact .inr (.inr (.inl h))
  · exact .inr (.inr (.inr (.inl h)))
  · exact .inr (.inr (.inr (.inr (mem_snd (gMk_keeps (mk := mkAV) (sz := szAV) (f := Prod.snd) (fun _ _ => rfl) x.MA _) (P := fun v => v.ownBlock = some g) h))))
theorem mkRX_cells (k : Int) (x : RX) : (mkRX k x).cells = [.string (mText k), .int .i64 (k + 1), x.pv, x.ev, x.av] := by
  show ruL (mText k) (k + 1) (mkRX k x).pv (mkRX k x).ev (mkRX k x).av = _
  rw [mkRX_pv, mkRX_ev, mkRX_av]
  rfl
theorem RRow.marked {w w2 : World} {B : Nat} {a : Option Addr} {c : Nat} {X Y : List RX} {x x' : RX} (h : RRow w B a c (X ++ x :: Y)) (hi : ∀ g, InX x' g → InX x g)
    (hr : w2.ownsRow B 46 5 (.slice a (X ++ x :: Y).length c) (X ++ x :: Y).length ((X ++ x' :: Y).flatMap RX.cells)) (hx : ROwn w2 B x') (hm : Mk (fun g => (Value.slice a (X ++ x :: Y).length c).ownBlock = some g ∨ InX x g) w w2) : RRow w2 B a c (X ++ x' :: Y) := by
  have hlen : (X ++ x' :: Y).length = (X ++ x :: Y).length := by simp
  have hp := h.pair
  rw [List.pairwise_append] at hp
  have hp2 := List.pairwise_cons.1 hp.2.1
  have hother : ∀ y : RX, y ∈ X ∨ y ∈ Y → ROwn w2 B y := by
    intro y hy
    have hym : y ∈ X ++ x :: Y := by rcases hy with hy | hy <;> simp [hy]
    refine (h.all y hym).keep fun g hg => hm.block g ((h.all y hym).blk hg).2 ?_
    rintro (e | e)
    · obtain ⟨c1, t1, e1, n1⟩ := (h.all y hym).typ hg
      obtain ⟨c2, e2⟩ := own_type h.row e
      exact ty_ne e1 e2 n1
    · rcases hy with hy | hy
      · exact hp.2.2 y hy x (by simp) g hg e
      · exact hp2.1 y hy g e hg
  refine ⟨by rw [hlen]; exact hr, fun y hy => ?_, ?_⟩
  · rcases List.mem_append.1 hy with hy | hy
    · exact hother y (.inl hy)
    · rcases List.mem_cons.1 hy with rfl | hy
      · exact hx
      · exact hother y (.inr hy)
  · refine List.pairwise_append.2 ⟨hp.1, List.pairwise_cons.2 ⟨fun y hy g hg => hp2.1 y hy g (hi g hg), hp2.2⟩, fun y hy z hz g hg hg' => ?_⟩
    rcases List.mem_cons.1 hz with rfl | hz
    · exact hp.2.2 y hy x (by simp) g hg (hi g hg')
    · exact hp.2.2 y hy z (by simp [hz]) g hg hg'
/-- Rows of other types stand where marks are written. -/
theorem own_mk {S : Nat → Prop} {w w' : World} {B t m n : Nat} {v : Value} {xs : List Value} (h : w.ownsRow B t m v n xs) (hm : Mk S w w') (ts : List Nat) (hS : ∀ g, S g → ∃ cs u, w.heap[g]? = some (.cells cs u (0, 0)) ∧ u ∈ ts) (ht : t ∉ ts) : w'.ownsRow B t m v n xs :=
  owns_of_block h fun g hg => hm.block g (h.lt g hg).2 fun hs => by
    obtain ⟨c1, e1⟩ := own_type h hg
    obtain ⟨c2, u, e2, hu⟩ := hS g hs
    exact ty_ne e1 e2 (fun e => ht (e ▸ hu))
theorem NRow.byMk {α : Type} {K : NK α} {S : Nat → Prop} {w w' : World} {B : Nat} {a : Option Addr} {c : Nat} {M : List (α × Value)} (h : NRow K w B a c M) (hm : Mk S w w') (ts : List Nat) (hS : ∀ g, S g → ∃ cs u, w.heap[g]? = some (.cells cs u (0, 0)) ∧ u ∈ ts) (h1 : K.t ∉ ts) (h2 : K.e ∉ ts) : NRow K w' B a c M :=
  h.keep (fun g hg => hm.block g (h.rlt g hg).2 fun hs => by
    obtain ⟨c1, e1⟩ := h.rty g hg
    obtain ⟨c2, u, e2, hu⟩ := hS g hs
    exact ty_ne e1 e2 (fun e => h1 (e ▸ hu))) (fun x hx g hg => hm.block g (h.vlt x hx g hg).2 fun hs => by
    obtain ⟨c1, e1⟩ := h.vty x hx g hg
    obtain ⟨c2, u, e2, hu⟩ := hS g hs
    exact ty_ne e1 e2 (fun e => h2 (e ▸ hu)))
theorem NRow.inn {α : Type} {K : NK α} {w : World} {B : Nat} {a : Option Addr} {c : Nat} {M : List (α × Value)} (h : NRow K w B a c M) : ∀ g, InN (.slice a M.length c) M g → ∃ cs u, w.heap[g]? = some (.cells cs u (0, 0)) ∧ u ∈ [K.t, K.e] := fun g hg => by
  rcases hg with hg | ⟨x, hx, hg⟩
  · obtain ⟨cs, e⟩ := h.rty g hg
    exact ⟨cs, _, e, by simp⟩
  · obtain ⟨cs, e⟩ := h.vty x hx g hg
    exact ⟨cs, _, e, by simp⟩
theorem own_inn {w : World} {B t m n : Nat} {v : Value} {xs : List Value} (h : w.ownsRow B t m v n xs) : ∀ g, v.ownBlock = some g → ∃ cs u, w.heap[g]? = some (.cells cs u (0, 0)) ∧ u ∈ [t] := fun g hg => by
  obtain ⟨cs, e⟩ := own_type h hg
  exact ⟨cs, _, e, by simp⟩
theorem set2F {p : Nat} {A B : List Value} (hA : A.length = p) (z1 z2 z3 x0 x1 y0 y1 : Value) : ((A ++ ([x0, x1, z1, z2, z3] ++ B)).set p y0).set (p + 1) y1 = A ++ ([y0, y1, z1, z2, z3] ++ B) := by
  subst hA
  simp
/-- What marks ask of a rule's sizes. -/
structure RxLe (x : RX) : Prop where
  p : x.MP.length ≤ 1048576
  pt : ∀ y ∈ x.MP, y.1.terms.length ≤ 1048576
  e : x.ru.exprs.length ≤ 1048576
  a : x.MA.length ≤ 1048576
  ai : ∀ y ∈ x.MA, y.1.args.length ≤ 1048576
theorem sumP {w : World} {B : Nat} {x : RX} (h : ROwn w B x) : gSum szPV x.MP = gSum szP x.ru.pats := by rw [← h.mp, gSum_map (sz := szPV) (sz' := szP) (f := Prod.fst) (fun _ => rfl)]
theorem sumA {w : World} {B : Nat} {x : RX} (h : ROwn w B x) : gSum szAV x.MA = gSum szA x.ru.acts := by rw [← h.ma, gSum_map (sz := szAV) (sz' := szA) (f := Prod.fst) (fun _ => rfl)]
set_option maxRecDepth 100000 in
set_option maxHeartbeats 6400000 in
theorem markRuleS_mk (a : Option Addr) (c : Nat) (M : List RX) (B : Nat) (k0 : Int) (w : World) (ho : RRow w B a c M) (hl : M.length ≤ 1048576) (hs : ∀ x ∈ M, RxLe x) (hk : 0 < k0) (hk' : k0 + (gSum szRX M : Int) ≤ 100000000) :
    Calls Tryz.prog 26 #[.slice a M.length c, .int .i64 k0] w fun e w' => e = .returned (.int .i64 (k0 + (gSum szRX M : Int))) ∧ RRow w' B a c (gMk mkRX szRX k0 M) ∧ Mk (fun g => (Value.slice a M.length c).ownBlock = some g ∨ ∃ x ∈ M, InX x g) w w' := by
  go_enter Tryz.func26, Tryz.ntmps26
  go_wp2
  go_loopw [1, 5] (fun kv i wr => ∃ (j : Nat), j ≤ M.length ∧ i = .int .i64 j ∧ kv = .int .i64 (k0 + (gSum szRX (M.take j) : Int)) ∧ RRow wr B a c (gMk mkRX szRX k0 (M.take j) ++ M.drop j) ∧ Mk (fun g => (Value.slice a M.length c).ownBlock = some g ∨ ∃ x ∈ M, InX x g) w wr) (fun _ i _ => M.length - (intOf i).toNat)
  case atStart => exact ⟨0, by omega, rfl, by simp [gSum], by simpa [gMk] using ho, Mk.refl _ _⟩
  case round =>
    obtain ⟨j, hj, rfl, rfl, ho1, hm⟩ := hrel
    have HM := hidX hm
    clear hm ho
    by_cases hjl : j < M.length
    · obtain ⟨x, hxj⟩ : ∃ x, M[j]? = some x := ⟨M[j], by simp [hjl]⟩
      obtain ⟨hKn, hKpos, hKle⟩ := gStep (sz := szRX) hxj hk hk'
      have hMn := gMk_take (mk := mkRX) (sz := szRX) (k := k0) hxj
      have hAl : (gMk mkRX szRX k0 (M.take j)).length = j := by rw [gMk_len, List.length_take]; omega
      rw [drop_cons hxj] at ho1
      have hox := ho1.all x (by simp)
      have hLl : (gMk mkRX szRX k0 (M.take j) ++ x :: M.drop (j + 1)).length = M.length := by simp [hAl]; omega
      have hrow := ho1.row
      rw [flat_midG, hLl] at hrow
      have hfl : ((gMk mkRX szRX k0 (M.take j)).flatMap RX.cells).length = j * 5 := by rw [flat_lenG (m := 5) _ (fun _ _ => rfl), hAl]
      obtain ⟨m0, e0⟩ : ∃ K : Int, K = k0 + (gSum szRX (M.take j) : Int) := ⟨_, rfl⟩
      rw [← e0] at hKn hKpos hKle hMn
      have hz : ((szRX x : Nat) : Int) = ((2 + gSum szP x.ru.pats + gSum (fun _ => 8) x.ru.exprs + gSum szA x.ru.acts : Nat) : Int) := rfl
      rw [hz, ← sumP hox, ← sumA hox] at hKn hKle
      have g0 : 0 < m0 ∧ m0 + ((2 : Nat) : Int) ≤ 100000000 := ⟨hKpos, by omega⟩
      rw [← e0]
      obtain ⟨m1, e1⟩ : ∃ x : Int, x = m0 + 1 := ⟨_, rfl⟩
      obtain ⟨hw1, g1⟩ := wrapS e1 g0
      obtain ⟨m2, e2⟩ : ∃ x : Int, x = m1 + 1 := ⟨_, rfl⟩
      obtain ⟨hw2, g2⟩ := wrapS e2 g1
      have b0 := bndS g0
      obtain ⟨q1, f1⟩ : ∃ z : Int, z = m2 + (gSum szPV x.MP : Int) := ⟨_, rfl⟩
      obtain ⟨q2, f2⟩ : ∃ z : Int, z = q1 + (gSum (fun _ => 8) x.ru.exprs : Int) := ⟨_, rfl⟩
      obtain ⟨q3, f3⟩ : ∃ z : Int, z = q2 + (gSum szAV x.MA : Int) := ⟨_, rfl⟩
      have hE : q3 = k0 + (gSum szRX (M.take (j + 1)) : Int) := by
        rw [hKn, f3, f2, f1, e2, e1]
        omega
      have hQ : q3 ≤ 100000000 := by
        rw [hE, hKn]
        exact hKle
      have h2p : 0 < m2 := g2.1
      have l1 : 0 < q1 ∧ q1 ≤ q2 ∧ q2 ≤ q3 := by omega
      have hx := hs x (List.mem_of_getElem? hxj)
      have HP := hidX (fun u (hu : NRow ptK u B x.pa x.pc x.MP) => markPatternS_mk x.pa x.pc x.MP B m2 u hu hx.p hx.pt h2p (by omega))
      have HEx := hidX (fun u (hu : u.ownsRow B 139 8 (.slice x.ea x.ru.exprs.length x.ec) x.ru.exprs.length (x.ru.exprs.flatMap exC)) => markExprS_mk x.ea x.ec x.ru.exprs B q1 u hu hx.e l1.1 (by omega))
      have HAc := hidX (fun u (hu : NRow acK u B x.aa x.ac x.MA) => markActionS_mk x.aa x.ac x.MA B q2 u hu hx.a hx.ai (by omega) (by omega))
      have hru : mkRX m0 x = ⟨⟨mText m0, m1, (gMk mkPV szPV m2 x.MP).map Prod.fst, gMk mkE (fun _ => 8) q1 x.ru.exprs, (gMk mkAV szAV q2 x.MA).map Prod.fst⟩, x.pa, x.pc, gMk mkPV szPV m2 x.MP, x.ea, x.ec, x.aa, x.ac, gMk mkAV szAV q2 x.MA⟩ := by
        unfold mkRX mkR
        rw [gMk_map (f := Prod.fst) (mk := mkPV) (sz := szPV) (mk' := mkP) (sz' := szP) (fun _ _ => rfl) (fun _ => rfl), gMk_map (f := Prod.fst) (mk := mkAV) (sz := szAV) (mk' := mkA) (sz' := szA) (fun _ _ => rfl) (fun _ => rfl), hox.mp, hox.ma, f2, f1, sumP hox, e2, e1]
      have hML : ([.string (mText m0), .int .i64 m1, x.pv, x.ev, x.av] : List Value) = (mkRX m0 x).cells := by rw [mkRX_cells, e1]
      rw [← f1] at HP
      rw [← f2] at HEx
      rw [← f3] at HAc
      obtain ⟨g, rfl, hbg, c0, z0⟩ := owns_cell (j := j * 5) (x := .string x.ru.name) hrow (by rw [List.getElem?_append_right (by omega), hfl, show j * 5 - j * 5 = 0 by omega]; rfl)
      obtain ⟨_, he1, _, c1, z1⟩ := owns_cell (j := j * 5 + 1) (x := .int .i64 x.ru.sal) hrow (by rw [List.getElem?_append_right (by omega), hfl, show j * 5 + 1 - j * 5 = 1 by omega]; rfl)
      obtain ⟨_, he2, _, c2, _⟩ := owns_cell (j := j * 5 + 2) (x := .slice x.pa x.MP.length x.pc) hrow (by rw [List.getElem?_append_right (by omega), hfl, show j * 5 + 2 - j * 5 = 2 by omega]; rfl)
      cases he1
      cases he2
      have hgl : g < wr.heap.size := World.block_lt_of_cell? wr ⟨g, _, none⟩ c0
      have hmem : ∀ g', (Value.slice (some ⟨g, 0, none⟩) M.length c).ownBlock = some g' ∨ InX x g' → (Value.slice (some ⟨g, 0, none⟩) M.length c).ownBlock = some g' ∨ ∃ x ∈ M, InX x g' := by
        rintro g' (h | h)
        · exact .inl h
        · exact .inr ⟨x, List.mem_of_getElem? hxj, h⟩
      have HO := hidX ho1
      have HX := hidX hox
      have HR := hidX hrow
      have HE := hidX hE
      have HL := hidX hML
      have HN := hidX hMn
      have HF := hidX hfl
      have HRU := hidX hru
      have HLl := hidX hLl
      have HME := hidX hmem
      clear ho1 hox hrow hE hML hMn hfl hAl hKn hKpos hKle hru hLl hmem hz hxj hx l1 h2p hQ f1 f2 f3 e0 e1 e2 g0 g1 g2
      go_wp2_with fail
      refine (markText_any m0 _ b0.1 b0.2).mono ?_
      rintro e w1 ⟨rfl, hb1⟩
      obtain ⟨hc1, hf1⟩ := bcell hb1
      have hgl1 : g < w1.heap.size := by
        have := hb1.size
        (try simp at this)
        omega
      go_wp2_with fail
      have m0' := fun (u : World) (p : Nat) (y : Value) => Mk.set (S := fun g' => (Value.slice (some ⟨g, 0, none⟩) M.length c).ownBlock = some g') (w := u) (p := ⟨g, p, none⟩) rfl y
      have s0 := owns_of_block HR.out (w' := w1) (fun g' hg' => hb1.block g' (by cases hg'; simpa using hgl))
      have s1 := (((s0.stored (j * 5) (.string (mText m0))).1).stored (j * 5 + 1) (.int .i64 m1)).1
      have t1 := ((Mk.of_below (S := fun g' => (Value.slice (some ⟨g, 0, none⟩) M.length c).ownBlock = some g') hb1).trans (m0' _ (j * 5) (.string (mText m0)))).trans (m0' _ (j * 5 + 1) (.int .i64 m1))
      have R1 := hidX (owns_cells s1 (set2F HF.out _ _ _ _ _ _ _))
      have T1 := hidX t1
      have N1 := hidX (own_inn HR.out)
      have X1 := hidX (HX.out.pts.byMk t1 [46] N1.out (by decide) (by decide))
      have Y1 := hidX (own_mk HX.out.exs t1 [46] N1.out (by decide))
      have Z1 := hidX (HX.out.acs.byMk t1 [46] N1.out (by decide) (by decide))
      clear m0' s0 s1 t1 hb1 hc1 hf1
      refine (HP.out _ X1.out).mono ?_
      rintro e w2 ⟨rfl, hp2, hm2⟩
      have N2 := hidX X1.out.inn
      have R2 := hidX (own_mk R1.out hm2 _ N2.out (by decide))
      have Y2 := hidX (own_mk Y1.out hm2 _ N2.out (by decide))
      have Z2 := hidX (Z1.out.byMk hm2 _ N2.out (by decide) (by decide))
      have P2 := hidX hp2
      have T2 := hidX hm2
      clear hp2 hm2 X1 Y1 Z1
      obtain ⟨_, he3, _, c3, _⟩ := owns_cell (j := j * 5 + 3) (x := .slice x.ea x.ru.exprs.length x.ec) R2.out (by rw [List.getElem?_append_right (by have := HF.out; omega), HF.out, show j * 5 + 3 - j * 5 = 3 by omega]; rfl)
      cases he3
      go_wp2_with fail
      refine (HEx.out _ Y2.out).mono ?_
      rintro e w3 ⟨rfl, hy3, hm3⟩
      have N3 := hidX (own_inn Y2.out)
      have R3 := hidX (own_mk R2.out hm3 _ N3.out (by decide))
      have P3 := hidX (P2.out.byMk hm3 _ N3.out (by decide) (by decide))
      have Z3 := hidX (Z2.out.byMk hm3 _ N3.out (by decide) (by decide))
      have Y3 := hidX hy3
      have T3 := hidX hm3
      clear hy3 hm3 P2 Y2 Z2 c3
      obtain ⟨_, he4, _, c4, _⟩ := owns_cell (j := j * 5 + 4) (x := .slice x.aa x.MA.length x.ac) R3.out (by rw [List.getElem?_append_right (by have := HF.out; omega), HF.out, show j * 5 + 4 - j * 5 = 4 by omega]; rfl)
      cases he4
      go_wp2_with fail
      refine (HAc.out _ Z3.out).mono ?_
      rintro e w4 ⟨rfl, hz4, hm4⟩
      have r4 := own_mk R3.out hm4 _ Z3.out.inn (by decide)
      have p4 := P3.out.byMk hm4 _ Z3.out.inn (by decide) (by decide)
      have y4 := own_mk Y3.out hm4 _ Z3.out.inn (by decide)
      have u1 : Mk (fun g' => (Value.slice (some ⟨g, 0, none⟩) M.length c).ownBlock = some g' ∨ InX x g') wr w4 := (((T1.out.mono (fun _ h => .inl h)).trans (T2.out.mono (fun _ h => .inr (h.elim .inl (fun h => .inr (.inl h)))))).trans (T3.out.mono (fun _ h => .inr (.inr (.inr (.inl h)))))).trans (hm4.mono (fun _ h => .inr (.inr (.inr (.inr (h.imp id id))))))
      have hx4 : ROwn w4 B (mkRX m0 x) := by
        rw [HRU.out]
        exact ⟨p4, by simpa [RX.ev, gMk_len] using y4, hz4, rfl, rfl⟩
      have hS := HO.out.marked (fun _ h => mkRX_in h) (by
        rw [HLl.out, flat_midG, ← HL.out]
        exact r4) hx4 (by rw [HLl.out]; exact u1)
      rw [show gMk mkRX szRX k0 (M.take j) ++ mkRX m0 x :: M.drop (j + 1) = gMk mkRX szRX k0 (M.take (j + 1)) ++ M.drop (j + 1) from by rw [HN.out, List.append_assoc, List.singleton_append]] at hS
      have S5 := hidX hS
      have M5 := hidX (HM.out.trans (u1.mono HME.out))
      clear hS u1 hx4 r4 p4 y4 hz4 hm4 c4
      go_wp2_with fail
      go_roundw
      case rel => exact ⟨j + 1, by omega, by go_num, by rw [← HE.out], S5.out, M5.out⟩
      case measure => simp [intOf]; omega
    · go_wp2
      go_ret
      obtain rfl : j = M.length := by omega
      rw [List.drop_eq_nil_of_le (Nat.le_refl _), List.append_nil, List.take_of_length_le (Nat.le_refl _)] at ho1
      rw [List.take_of_length_le (Nat.le_refl _)]
      exact ⟨rfl, ho1, HM.out⟩
/-- What marks ask of a rule's sizes, of rules as data. -/
structure RuSz (x : Ru) : Prop where
  p : x.pats.length ≤ 1048576
  pt : ∀ y ∈ x.pats, y.terms.length ≤ 1048576
  e : x.exprs.length ≤ 1048576
  a : x.acts.length ≤ 1048576
  ai : ∀ y ∈ x.acts, y.args.length ≤ 1048576
set_option maxRecDepth 100000 in
set_option maxHeartbeats 6400000 in
theorem heldRuleS_mk (a : Option Addr) (c : Nat) (M : List Ru) (k0 : Int) (w : World) {q : Option Nat} (hv : RusAt q w a (gMk mkR szR k0 M)) (hl : M.length ≤ 1048576) (hs : ∀ x ∈ M, RuSz x) (hk : 0 < k0) (hk' : k0 + (gSum szR M : Int) ≤ 100000000) :
    Calls Tryz.prog 27 #[.slice a M.length c, .int .i64 k0] w fun e w' => e = .returned (.int .i64 (k0 + (gSum szR M : Int))) ∧ Below w.heap.size w w' := by
  go_enter Tryz.func27, Tryz.ntmps27
  go_wp2
  go_loopw [1, 5] (fun kv i wr => ∃ (j : Nat), j ≤ M.length ∧ i = .int .i64 j ∧ kv = .int .i64 (k0 + (gSum szR (M.take j) : Int)) ∧ Below w.heap.size w wr) (fun _ i _ => M.length - (intOf i).toNat)
  case atStart => exact ⟨0, by omega, rfl, by simp [gSum], Below.refl _ _⟩
  case round =>
    obtain ⟨j, hj, rfl, rfl, hb⟩ := hrel
    by_cases hjl : j < M.length
    · obtain ⟨x, hxj⟩ : ∃ x, M[j]? = some x := ⟨M[j], by simp [hjl]⟩
      obtain ⟨hKn, hKpos, hKle⟩ := gStep (sz := szR) hxj hk hk'
      have hat := gMk_at (mk := mkR) (sz := szR) (k := k0) hxj
      obtain ⟨m0, e0⟩ : ∃ K : Int, K = k0 + (gSum szR (M.take j) : Int) := ⟨_, rfl⟩
      rw [← e0] at hKn hKpos hKle hat
      have hz : ((szR x : Nat) : Int) = ((2 + gSum szP x.pats + gSum (fun _ => 8) x.exprs + gSum szA x.acts : Nat) : Int) := rfl
      rw [hz] at hKn hKle
      have g0 : 0 < m0 ∧ m0 + ((2 : Nat) : Int) ≤ 100000000 := ⟨hKpos, by omega⟩
      rw [← e0]
      obtain ⟨m1, e1⟩ : ∃ x : Int, x = m0 + 1 := ⟨_, rfl⟩
      obtain ⟨hw1, g1⟩ := wrapS e1 g0
      obtain ⟨m2, e2⟩ : ∃ x : Int, x = m1 + 1 := ⟨_, rfl⟩
      obtain ⟨hw2, g2⟩ := wrapS e2 g1
      have b0 := bndS g0
      obtain ⟨q1, f1⟩ : ∃ z : Int, z = m2 + (gSum szP x.pats : Int) := ⟨_, rfl⟩
      obtain ⟨q2, f2⟩ : ∃ z : Int, z = q1 + (gSum (fun _ => 8) x.exprs : Int) := ⟨_, rfl⟩
      obtain ⟨q3, f3⟩ : ∃ z : Int, z = q2 + (gSum szA x.acts : Int) := ⟨_, rfl⟩
      have hE : q3 = k0 + (gSum szR (M.take (j + 1)) : Int) := by
        rw [hKn, f3, f2, f1, e2, e1]
        omega
      have hQ : q3 ≤ 100000000 := by
        rw [hE, hKn]
        exact hKle
      have h2p : 0 < m2 := g2.1
      have l1 : 0 < q1 ∧ q1 ≤ q2 ∧ q2 ≤ q3 := by omega
      have hx := hs x (List.mem_of_getElem? hxj)
      obtain ⟨b, o, pa, pc, ea, ec, aa, ac, rfl, _, d0, d1, d2, d3, d4, hps, hes, has, _⟩ := (RusAt.below hv hb).get hat
      have i1 : (mkR m0 x).pats = gMk mkP szP m2 x.pats := by rw [e2, e1]; rfl
      have i2 : (mkR m0 x).exprs = gMk mkE (fun _ => 8) q1 x.exprs := by rw [f1, e2, e1]; rfl
      have i3 : (mkR m0 x).acts = gMk mkA szA q2 x.acts := by rw [f2, f1, e2, e1]; rfl
      have d1' : wr.cell? ⟨b, o + j * 5 + 1, none⟩ = some (.int .i64 m1) := by rw [e1]; exact d1
      have d0' : wr.cell? ⟨b, o + j * 5, none⟩ = some (.string (mText m0)) := d0
      rw [i1, gMk_len] at d2
      rw [i2, gMk_len] at d3
      rw [i3, gMk_len] at d4
      rw [i1] at hps
      rw [i2] at hes
      rw [i3] at has
      have HP := hidX (fun u (hu : Below wr.heap.size wr u) => heldPatternS_mk pa pc x.pats m2 u (PtsAt.below hps hu) hx.p hx.pt h2p (by omega))
      have HEx := hidX (fun u (hu : Below wr.heap.size wr u) => heldExprS_mk ea ec x.exprs q1 u (ExsAt.below hes hu) hx.e l1.1 (by omega))
      have HAc := hidX (fun u (hu : Below wr.heap.size wr u) => heldActionS_mk aa ac x.acts q2 u (AcsAt.below has hu) hx.a hx.ai (by omega) (by omega))
      rw [← f1] at HP
      rw [← f2] at HEx
      rw [← f3] at HAc
      have n1 : ¬ q1 < 0 := by omega
      have n2 : ¬ q2 < 0 := by omega
      have n3 : ¬ q3 < 0 := by omega
      have HE := hidX hE
      have HB := hidX hb
      clear hE hat hKn hKpos hKle hb hps hes has i1 i2 i3 hz hxj hx l1 h2p hQ f1 f2 f3 e0 e1 e2 g0 g1 g2 d0 d1
      go_wp2_with fail
      go_region_held3 (fun w' => w'.cell? ⟨b, o + j * 5, none⟩ = some (.string (mText m0))) ((first | with_reducible exact cell_below hb1 (by assumption) | exact d0'))
        ((go_at_call 52; refine (markText_any m0 _ b0.1 b0.2).mono ?_; rintro e w1 ⟨rfl, hb1⟩))
      have hB1 : Below wr.heap.size wr w1 := (Below.refl _ _).drew.trans hb1
      replace d1' := cell_below hB1 d1'
      have c2 := cell_below hB1 d2
      go_upto_region 13 with (first | (go_at_call 56; refine (HP.out _ hB1).mono ?_; rintro e w2 ⟨rfl, hb2⟩) | fail)
      have hB2 : Below wr.heap.size wr w2 := hB1.trans (hb2.mono hB1.size)
      have c3 := cell_below hB2 d3
      go_upto_region 16 with (first | (go_at_call 57; refine (HEx.out _ hB2).mono ?_; rintro e w3 ⟨rfl, hb3⟩) | fail)
      have hB3 : Below wr.heap.size wr w3 := hB2.trans (hb3.mono hB2.size)
      have c4 := cell_below hB3 d4
      go_wp2_with (first | (go_at_call 58; refine (HAc.out _ hB3).mono ?_; rintro e w4 ⟨rfl, hb4⟩) | fail)
      have hB4 : Below wr.heap.size wr w4 := hB3.trans (hb4.mono hB3.size)
      go_roundw
      case rel => exact ⟨j + 1, by omega, by go_num, by rw [← HE.out], HB.out.trans (hB4.mono HB.out.size)⟩
      case measure => simp [intOf]; omega
    · go_wp2
      go_ret
      obtain rfl : j = M.length := by omega
      rw [List.take_of_length_le (Nat.le_refl _)]
      exact ⟨rfl, hb⟩
set_option maxHeartbeats 800000 in
theorem markParsed_mk (code pos : Int) (a : Option Addr) (c : Nat) (M : List RX) (B : Nat) (k0 : Int) (w : World) (ho : RRow w B a c M) (hl : M.length ≤ 1048576) (hs : ∀ x ∈ M, RxLe x) (hk : 0 < k0) (hk' : k0 + (gSum szRX M : Int) ≤ 100000000) :
    Calls Tryz.prog 11 #[.agg #[.int .i64 code, .int .i64 pos, .slice a M.length c], .int .i64 k0] w fun e w' => e = .returned (.int .i64 (k0 + (gSum szRX M : Int))) ∧ RRow w' B a c (gMk mkRX szRX k0 M) ∧ Mk (fun g => (Value.slice a M.length c).ownBlock = some g ∨ ∃ x ∈ M, InX x g) w w' := by
  have B1 : ∀ o, Below w.heap.size w (w.alloc o) := fun o => (Below.refl _ _).alloc (Nat.le_refl _) _
  go_enter Tryz.func11, Tryz.ntmps11
  go_wp2_with (go_at_call 26; refine (markRuleS_mk a c M B k0 _ (ho.below (B1 _)) hl hs hk hk').mono ?_; rintro e w1 ⟨rfl, ho1, hm1⟩)
  go_ret
  exact ⟨rfl, ho1, (Mk.of_below (B1 _)).trans hm1⟩
set_option maxHeartbeats 800000 in
theorem heldParsed_mk (code pos : Int) (a : Option Addr) (c : Nat) (M : List Ru) (k0 : Int) (w : World) {q : Option Nat} (hv : RusAt q w a (gMk mkR szR k0 M)) (hl : M.length ≤ 1048576) (hs : ∀ x ∈ M, RuSz x) (hk : 0 < k0) (hk' : k0 + (gSum szR M : Int) ≤ 100000000) :
    Calls Tryz.prog 12 #[.agg #[.int .i64 code, .int .i64 pos, .slice a M.length c], .int .i64 k0] w fun e w' => e = .returned (.int .i64 (k0 + (gSum szR M : Int))) ∧ Below w.heap.size w w' := by
  have B1 : ∀ o, Below w.heap.size w (w.alloc o) := fun o => (Below.refl _ _).alloc (Nat.le_refl _) _
  have hnn : ¬ k0 + (gSum szR M : Int) < 0 := by omega
  go_enter Tryz.func12, Tryz.ntmps12
  go_wp2_with (go_at_call 27; refine (heldRuleS_mk a c M k0 _ (RusAt.below hv (B1 _)) hl hs hk hk').mono ?_; rintro e w1 ⟨rfl, hb1⟩)
  go_ret
  exact ⟨rfl, (B1 _).trans (hb1.mono (by simp))⟩
/-- A row that is owned has room for what it holds. -/
theorem owns_cap {w : World} {B t m n c : Nat} {a : Option Addr} {xs : List Value} (h : w.ownsRow B t m (.slice a n c) n xs) : n ≤ c := by
  obtain ⟨_, ⟨h1, h2⟩ | ⟨g, cap, cur, h1, h2, h3, h4, _⟩⟩ := h
  · omega
  · injection h1 with _ _ e3
    omega
theorem NRow.ptsAt {w : World} {B : Nat} {a : Option Addr} {c : Nat} {M : List (Pt × Value)} (h : NRow ptK w B a c M) : PtsAt none w a (M.map Prod.fst) :=
  RowsAt.of_owns h.row (fun _ _ => rfl) (by decide) fun x hx => by
    obtain ⟨la, lc, e, ho⟩ := h.all x hx
    have ho' : w.ownsRow B 111 6 (.slice la x.1.terms.length lc) x.1.terms.length (x.1.terms.flatMap tmC) := by rw [e] at ho; exact ho
    refine ⟨la, lc, by show ptP x.1 x.2 = _; rw [e]; rfl, ?_, owns_cap ho'⟩
    have := RowsAt.of_owns (R := Tm.R) (p := id) ho' (fun _ _ => rfl) (by decide) (fun _ _ => rfl)
    simpa using this
theorem NRow.acsAt {w : World} {B : Nat} {a : Option Addr} {c : Nat} {M : List (Ac × Value)} (h : NRow acK w B a c M) : AcsAt none w a (M.map Prod.fst) :=
  RowsAt.of_owns h.row (fun _ _ => rfl) (by decide) fun x hx => by
    obtain ⟨la, lc, e, ho⟩ := h.all x hx
    have ho' : w.ownsRow B 3 1 (.slice la x.1.args.length lc) x.1.args.length (icells x.1.args) := by rw [e] at ho; exact ho
    exact ⟨la, lc, by show acL x.1 x.2 = _; rw [e]; rfl, IntsAt.owns ho'⟩
theorem RRow.at {w : World} {B : Nat} {a : Option Addr} {c : Nat} {M : List RX} (h : RRow w B a c M) : RusAt none w a (M.map RX.ru) :=
  RowsAt.of_owns h.row (fun _ _ => rfl) (by decide) fun x hx => by
    have hx := h.all x hx
    have hp := hx.pts.ptsAt
    have ha := hx.acs.acsAt
    rw [hx.mp] at hp
    rw [hx.ma] at ha
    refine ⟨x.pa, x.pc, x.ea, x.ec, x.aa, x.ac, ?_, hp, ?_, ha, owns_cap hx.exs⟩
    · show ruL x.ru.name x.ru.sal (.slice x.pa x.MP.length x.pc) (.slice x.ea x.ru.exprs.length x.ec) (.slice x.aa x.MA.length x.ac) = _
      rw [← hx.mp, ← hx.ma, List.length_map, List.length_map]
      rfl
    · have := RowsAt.of_owns (R := Ex.R) (p := id) hx.exs (fun _ _ => rfl) (by decide) (fun _ _ => rfl)
      simpa using this
end Go.Proofs.YtdhpoagjmiligaaGreatDoor

namespace Go.Proofs.YtdhpoagjmiligaaGreatDoor
open Go.RowKit
attribute [local go_sem ↓] Go.wp_at_zero Go.wp_at_succ

set_option maxRecDepth 100000 in
set_option maxHeartbeats 1600000 in
theorem ffSource_any (w : World) (pb : Nat) (src : Bs) (a : Option Addr) (c : Nat) (h : w.cell? ⟨pb, 0, none⟩ = some (.slice a src.length c)) (hE : ErrT w) (hgp : 0 < pb) (r : Except Flt Unit) (Q : World → World → Prop)
    (hrd : src.length ≤ 20000 → ∀ u, Below w.heap.size w u → Calls Tryz.prog 24 #[.pointer (some ⟨pb, 0, none⟩)] u fun e w' => MkO (some pb) u w' ∧ match r with | .error f => e = fltE f | .ok _ => e = .returned (.tuple #[]) ∧ Q u w') :
    Calls Tryz.prog 23 #[.pointer (some ⟨pb, 0, none⟩), .func (.func 24) #[.pointer (some ⟨pb, 0, none⟩)] #[]] w (FfPost w pb src.length r Q) := by
  have hmf : ∀ (fn : Fn) (first cap : Array Value) (w : World), (Instr.makeFunc fn first cap).run Tryz.prog w = .ok (.func fn first cap) w := fun _ _ _ _ => rfl
  have hpb := World.block_lt_of_cell? w ⟨pb, 0, none⟩ h
  have HE := hidX hE
  have HRD := hidX hrd
  clear hE hrd
  go_enter_defers Tryz.func23, Tryz.ntmps23
  go_upto_region 2 with fail
  refine lift_alloc ?_
  intro w1 hW1 hq1
  have hl1 : w.heap.size < w1.heap.size := lt_of_block' hq1
  have c0 := cell_below hW1 h
  have M1 := hidX (MkO.of_below hW1 : MkO (some pb) w w1)
  have HW1 := hidX hW1
  have HQ1 := hidX hq1
  have E1 := hidX (HE.out.mko M1.out hgp)
  clear hW1 hq1 h
  by_cases hl : 20000 < src.length
  · have hl' : (20000 : Int) < (src.length : Int) := by omega
    have HL := hidX hl
    clear hl
    go_wp2_with fail
    refine leaves_cons (f := 46) (args := #[.pointer (some ⟨w.heap.size, 0, none⟩)]) (by simp) (by simp [go_sem]) ?_
    refine (ask_fault (4, 0) w.heap.size _ w1 E1.out HQ1.out rfl []).mono ?_
    rintro e u' w2 ⟨rfl, rfl, hq2, hm2⟩
    have hld := run_loadVar_mid (P := Tryz.prog) w2 w.heap.size 0 55 [.int .i64 4, .int .i64 ((0 : Nat) : Int)] _ (range_blk hq2) Tryz.underlying55 rfl infoFlt
    have hP : FfPost w pb src.length r Q (.returned (.agg #[.int .i64 4, .int .i64 ((0 : Nat) : Int)])) w2 := by
      refine ⟨?_, ?_⟩
      · exact ⟨(M1.out.rest).trans hm2.rest, fun g hg hne => (hm2.block g (by omega) (fun e => by injection e; omega)).trans (M1.out.block g hg hne)⟩
      · rw [if_pos HL.out]
    simp [Leaves, settle, results, Tryz.results23, asAddr, hld]
    exact hP
  · have hl' : ¬ (20000 : Int) < (src.length : Int) := by omega
    have HL := hidX hl
    replace HRD := hidX (HRD.out (by omega) w1 HW1.out)
    cases r with
    | error f =>
      clear hl
      go_wp2_with (first | (go_at_call 24; refine HRD.out.mono ?_; rintro e w2 ⟨hm2, rfl⟩; unfold fltE) | fail)
      have hq2 := (hm2.block w.heap.size hl1 (fun e => by injection e; omega)).trans HQ1.out
      refine leaves_cons (f := 46) (args := #[.pointer (some ⟨w.heap.size, 0, none⟩)]) (by simp) (by simp [go_sem]) ?_
      refine (ask_fault f w.heap.size _ w2 (E1.out.mko hm2 hgp) hq2 rfl []).mono ?_
      rintro e u' w3 ⟨rfl, rfl, hq3, hm3⟩
      have hld := run_loadVar_mid (P := Tryz.prog) w3 w.heap.size 0 55 [.int .i64 f.1, .int .i64 (f.2 : Int)] _ (range_blk hq3) Tryz.underlying55 rfl infoFlt
      have hs2 := hm2.rest.size
      have hP : FfPost w pb src.length (.error f) Q (.returned (.agg #[.int .i64 f.1, .int .i64 (f.2 : Int)])) w3 := by
        refine ⟨?_, ?_⟩
        · have M2 := M1.out.trans hm2
          exact ⟨M2.rest.trans hm3.rest, fun g hg hne => (hm3.block g (by omega) (fun e => by injection e; omega)).trans (M2.block g hg hne)⟩
        · rw [if_neg HL.out]
      simp [Leaves, settle, results, Tryz.results23, asAddr, hld]
      exact hP
    | ok u =>
      clear hl
      go_wp2_with (first | (go_at_call 24; refine HRD.out.mono ?_; rintro e w2 ⟨hm2, rfl, hQ2⟩; have hq2 := (hm2.block w.heap.size hl1 (fun e => by injection e; omega)).trans HQ1.out; have HQ := hidX hQ2; clear hQ2) | (refine wpList_store_blk (by rfl) 55 (.tmp 4) (.tmp 17) (by rfl) w.heap.size [.int .i64 0, .int .i64 0] (by rfl) (by rfl) _ 55 hq2 (by rfl) infoFlt (by simp [Value.oneCell']) ?_; intro w3 hb3 ht3) | fail)
      refine leaves_cons (f := 46) (args := #[.pointer (some ⟨w.heap.size, 0, none⟩)]) (by simp) (by simp [go_sem]) ?_
      refine (ask_idle w.heap.size w3).mono ?_
      rintro e u' w4 ⟨rfl, rfl, rfl⟩
      have hld := run_loadVar_mid (P := Tryz.prog) w4 w.heap.size 0 55 [.int .i64 0, .int .i64 0] _ (range_blk hb3.out) Tryz.underlying55 rfl infoFlt
      have hP : FfPost w pb src.length (.ok u) Q (.returned (.agg #[.int .i64 0, .int .i64 0])) w4 := by
        refine ⟨(M1.out.trans hm2).turn ht3.out (Nat.le_refl _), ?_⟩
        rw [if_neg HL.out]
        exact ⟨rfl, w1, w2, HW1.out, hl1, HQ.out, ⟨_, hq2⟩, ht3.out⟩
      refine ⟨.agg #[.int .i64 0, .int .i64 0], ?_, hP⟩
      simp [results, Tryz.results23, asAddr, hld, Act.put]
end Go.Proofs.YtdhpoagjmiligaaGreatDoor

namespace Go.Proofs.YtdhpoagjmiligaaGreatDoor
open Go.RowKit
attribute [local go_sem ↓] Go.wp_at_zero Go.wp_at_succ

theorem infoPd : (Tryz.prog.info? 25).map (·.size) = some 3 := by kernel_rfl
/-- What ParseRules leaves. -/
def PrPost (w : World) (r : Px (List Ru)) (e : Ending) (w' : World) : Prop := Below w.heap.size w w' ∧ ∃ (code : Int) (pos : Nat) (la : Option Addr) (lc : Nat) (M : List RX), e = .returned (.agg (csL code pos (.slice la M.length lc)).toArray) ∧ RRow w' w.heap.size la lc M ∧ match r with
  | .error f => code = f.1 ∧ pos = f.2 ∧ M = []
  | .ok (vs, _) => code = 0 ∧ pos = 0 ∧ M.map RX.ru = vs
theorem RRow.base {w : World} {B B' : Nat} {a : Option Addr} {c : Nat} {M : List RX} (h : RRow w B a c M) (hb : B' ≤ B) : RRow w B' a c M := ⟨owns_base h.row hb, fun x hx => (h.all x hx).base hb, h.pair⟩
theorem RRow.turned {w w' : World} {B b : Nat} {a : Option Addr} {c : Nat} {M : List RX} {cs : Array Value} {t : TypeId} (h : RRow w B a c M) (ht : Turned w w' b) (hb : w.heap[b]? = some (.cells cs t (0, 0))) (h0 : 46 ≠ t) (h1 : 80 ≠ t) (h2 : 111 ≠ t) (h3 : 139 ≠ t) (h4 : 84 ≠ t) (h5 : 3 ≠ t) : RRow w' B a c M :=
  ⟨owns_of_block h.row (fun g hg => ht.block g (fun e => by
    obtain ⟨c1, e1⟩ := own_type h.row hg
    subst e
    exact ty_ne e1 hb h0)), fun x hx => ⟨(h.all x hx).pts.turned ht hb h1 h2, owns_of_block (h.all x hx).exs (fun g hg => ht.block g (fun e => by
    obtain ⟨c1, e1⟩ := own_type (h.all x hx).exs hg
    subst e
    exact ty_ne e1 hb h3)), (h.all x hx).acs.turned ht hb h4 h5, (h.all x hx).mp, (h.all x hx).ma⟩, h.pair⟩
/-- Rules that were read to their end. -/
def SrcQ (pb : Nat) (src : Bs) (a : Option Addr) (c : Nat) (am cm lv : Value) (vs : List Ru) (u w' : World) : Prop := ∃ la lc M ev bv l, M.map RX.ru = vs ∧ RRow w' u.heap.size la lc M ∧ PSt w' pb src a c l (RL am cm (.slice la M.length lc) lv ev bv)
set_option maxRecDepth 100000 in
set_option maxHeartbeats 3200000 in
theorem iParseRules_any (src : Bs) (a : Option Addr) (c : Nat) (w : World) (hv : BysAt w a src) (hcap : src.length ≤ c) (hfar : ∀ b o, a = some ⟨b, o, none⟩ → b < w.heap.size) (hE : EnvAt w w.heap.size) (hT : ErrT w) : Calls Tryz.prog 7 #[.slice a src.length c] w (PrPost w (prR src)) := by
  have hmf : ∀ (fn : Fn) (first cap : Array Value) (w : World), (Instr.makeFunc fn first cap).run Tryz.prog w = .ok (.func fn first cap) w := fun _ _ _ _ => rfl
  have HV := hidX hv
  have HF := hidX hfar
  have HE := hidX hE
  have HT := hidX hT
  clear hv hfar hE hT
  go_enter Tryz.func7, Tryz.ntmps7
  go_upto_region 1 with fail
  refine lift_alloc ?_
  intro w1 hW1 hq1
  have hl1 : w.heap.size < w1.heap.size := lt_of_block' hq1
  have HW1 := hidX hW1
  have HQ1 := hidX hq1
  clear hW1 hq1
  go_upto_region 2 with (first | (go_at_call 22; refine (newParser_any a src.length c w1).mono ?_; rintro e w2 ⟨rfl, hb2, am, cm, hq2, hA2, hC2, hla, hlc⟩) | fail)
  have HE1 : EnvAt w1 w1.heap.size := ⟨(HE.out.keep HW1.out).err, (HE.out.keep HW1.out).tests, Nat.lt_trans HE.out.g1 hl1, Nat.lt_trans HE.out.g2 hl1⟩
  have hT2 : ErrT w2 := (World.cell?_of_block (w := w) (((HW1.out.trans (hb2.mono (Nat.le_of_lt hl1))).block 0 (lt_cellX HT.out)))).trans HT.out
  have c02 := cell_of hq2 (j := 0) rfl
  have hp2 : w1.heap.size < w2.heap.size := lt_of_block' hq2
  have HFF := hidX (ffSource_any w2 w1.heap.size src a c c02 hT2 (Nat.lt_trans (lt_cellX HT.out) hl1) (unitR (pRules (wordsOf src))) (SrcQ w1.heap.size src a c (.map (some am)) (.map (some cm)) (.slice none 0 0) (match pRules (wordsOf src) with | .error _ => [] | .ok (vs, _) => vs)) (fun hl u hu => by
    have hr := NpPost.ready hq2 hb2 (HV.out.below HW1.out) hcap hl (fun b o e => Nat.lt_trans (HF.out b o e) hl1) HE1
    refine (source_any u w1.heap.size am src a c (wordsOf src) (.map (some cm)) (.slice none 0 0) (.slice none 0 0) (.int .i64 0) (hr.below hu) (hA2.below hu) hla).mono ?_
    intro e w' hp
    obtain ⟨hm, hp⟩ := hp
    refine ⟨hm, ?_⟩
    unfold unitR
    cases hc : pRules (wordsOf src) with
    | error f => rw [hc] at hp; exact hp
    | ok q =>
      obtain ⟨vs, l⟩ := q
      rw [hc] at hp
      obtain ⟨he, la, lc, M, ev, bv, h1, h2, h3⟩ := hp
      exact ⟨he, la, lc, M, ev, bv, l, h1, h2, h3⟩))
  have HRB2 := hidX ((hb2.block w.heap.size hl1).trans HQ1.out)
  have BL2 := hidX (HW1.out.trans (hb2.mono (Nat.le_of_lt hl1)) : Below w.heap.size w w2)
  clear hb2 hq2 hA2 hC2 hla hlc HE1 hT2 c02
  cases hr : (if 20000 < src.length then .error (4, 0) else unitR (pRules (wordsOf src)) : Except Flt Unit) with
  | error f =>
    have hpc : prR src = .error f := by
      unfold prR
      unfold unitR at hr
      split at hr
      · rw [if_pos (by assumption)]
        injection hr with hr
        rw [hr]
      · rw [if_neg (by assumption)]
        cases hc : pRules (wordsOf src) with
        | error f' =>
          rw [hc] at hr
          injection hr with hr
          rw [hr]
        | ok q => rw [hc] at hr; cases hr
    have HPC := hidX hpc
    have hne := pr_code hpc
    have hne' : (f.1 != 0) = true := by simpa using hne
    unfold FfPost at HFF
    rw [hr] at HFF
    clear hr hpc
    go_upto_region 3 with (first | (go_at_call 23; refine HFF.out.mono ?_; rintro e w3 ⟨hm3, rfl⟩) | fail)
    refine lift_alloc ?_
    intro w4 hW4 hq4
    have hs3 := hm3.rest.size
    have hs4 : w3.heap.size < w4.heap.size := lt_of_block' hq4
    have d0 := cell_of (L := [_, _]) hq4 (j := 0) rfl
    have d1 := cell_of (L := [_, _]) hq4 (j := 1) rfl
    have hrq := (hW4.block w.heap.size (by omega)).trans ((hm3.block w.heap.size (by omega) (fun e => by injection e; omega)).trans HRB2.out)
    have BL4 := hidX ((BL2.out.trans (hm3.below (by omega) (fun g e => by injection e; omega))).trans (hW4.mono (by omega)) : Below w.heap.size w w4)
    clear hW4 hq4 hm3 HFF hne
    go_wp2_with (first | (refine wpList_store_blk (by rfl) 25 (.tmp 2) (.tmp 18) (by rfl) w.heap.size (csL f.1 f.2 (.slice none 0 0)) (by rfl) (by rfl) _ 25 hrq (by rfl) infoPd (csL_one _ _ _ _ _) ?_; intro w5 hb5 ht5) | fail)
    have hld := run_loadVar_mid (P := Tryz.prog) w5 w.heap.size 0 25 (csL f.1 f.2 (.slice none 0 0)) _ (range_blk hb5.out) Tryz.underlying25 rfl infoPd
    (try go_frame)
    refine bodyPost_ret (v := .agg (csL f.1 f.2 (.slice none 0 0)).toArray) (by simp [results, Tryz.results7, asAddr, hld]) rfl ⟨BL4.out.trans (ht5.out.below (Nat.le_refl _)), f.1, f.2, none, 0, [], rfl, RRow.nil _ _, ?_⟩
    rw [HPC.out]
    exact ⟨rfl, rfl, rfl⟩
  | ok u =>
    have hpc : ∃ vs l, pRules (wordsOf src) = .ok (vs, l) ∧ prR src = .ok (vs, l) := by
      unfold prR
      unfold unitR at hr
      split at hr
      · cases hr
      · rw [if_neg (by assumption)]
        cases hc : pRules (wordsOf src) with
        | error f' => rw [hc] at hr; cases hr
        | ok q => exact ⟨q.1, q.2, rfl, rfl⟩
    obtain ⟨vs, l, hp1, hpc⟩ := hpc
    have HPC := hidX hpc
    unfold FfPost at HFF
    rw [hr, hp1] at HFF
    clear hr hpc hp1
    go_upto_region 3 with (first | (go_at_call 23; refine HFF.out.mono ?_; rintro e w3 ⟨hm3, rfl, u1, u2, hu1, hul, ⟨la, lc, M, ev, bv, l', hMv, hco, hps⟩, ⟨cs, hcs⟩, ht3⟩) | fail)
    refine lift_alloc ?_
    intro w4 hW4 hq4
    have hs3 := hm3.rest.size
    have hs4 : w3.heap.size < w4.heap.size := lt_of_block' hq4
    have d0 := cell_of (L := [_, _]) hq4 (j := 0) rfl
    have d1 := cell_of (L := [_, _]) hq4 (j := 1) rfl
    have hrq := (hW4.block w.heap.size (by omega)).trans ((hm3.block w.heap.size (by omega) (fun e => by injection e; omega)).trans HRB2.out)
    have BL4 := hidX ((BL2.out.trans (hm3.below (by omega) (fun g e => by injection e; omega))).trans (hW4.mono (by omega)) : Below w.heap.size w w4)
    have hp4 := ((hps.turned ht3 hp2).below hW4).cell (j := 2) rfl
    have C4 := hidX (((hco.turned ht3 hcs (by decide) (by decide) (by decide) (by decide) (by decide) (by decide)).mko (MkO.of_below hW4 : MkO (some w1.heap.size) w3 w4) (by omega)).base (show w.heap.size ≤ u1.heap.size by omega))
    have HMV := hidX hMv
    clear hW4 hq4 hm3 HFF hps hco hcs ht3 hMv hu1
    go_wp2_with (first | (refine wpList_store_blk (by rfl) 25 (.tmp 2) (.tmp 23) (by rfl) w.heap.size (csL 0 0 (.slice la M.length lc)) (by rfl) (by rfl) _ 25 hrq (by rfl) infoPd (csL_one _ _ _ _ _) ?_; intro w5 hb5 ht5) | fail)
    have hld := run_loadVar_mid (P := Tryz.prog) w5 w.heap.size 0 25 (csL 0 0 (.slice la M.length lc)) _ (range_blk hb5.out) Tryz.underlying25 rfl infoPd
    (try go_frame)
    refine bodyPost_ret (v := .agg (csL 0 0 (.slice la M.length lc)).toArray) (by simp [results, Tryz.results7, asAddr, hld]) rfl ⟨BL4.out.trans (ht5.out.below (Nat.le_refl _)), 0, 0, la, lc, M, rfl, C4.out.turned ht5.out hrq (by decide) (by decide) (by decide) (by decide) (by decide) (by decide), ?_⟩
    rw [HPC.out]
    exact ⟨rfl, rfl, HMV.out⟩
end Go.Proofs.YtdhpoagjmiligaaGreatDoor

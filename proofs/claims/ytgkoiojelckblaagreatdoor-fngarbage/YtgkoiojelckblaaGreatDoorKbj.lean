/-
  OUR OWN TEXT. Pt6, Pt7, one behind the other.
-/
import Derived.Test.YtgkoiojelckblaaGreatDoorKbg
namespace Go.Proofs.YtgkoiojelckblaaGreatDoor
open Go.RowKit
attribute [local go_sem ↓] Go.wp_at_zero Go.wp_at_succ

theorem expr_all : ∀ f, ExprC f := by
  intro f
  induction f with
  | zero => exact pexpr_of 0 (fun f' e => by omega)
  | succ f ih =>
    refine pexpr_of (f + 1) (fun f' e => ?_)
    obtain rfl : f = f' := by omega
    exact ih
theorem argument_any (w : World) (B pb : Nat) (src : Bs) (a : Option Addr) (c : Nat) (l : List Wd) (am cm rv lv : Value) (s : ES) (ea : Option Addr) (ec : Nat) (h : ExS w B pb src a c l am cm rv lv s ea ec) (hk : s.1.length ≤ s.2) (h60 : s.2 ≤ 60) : Calls Tryz.prog 60 #[.pointer (some ⟨pb, 0, none⟩)] w (EPost w B pb src a c am cm rv lv (obE s ea ec) Rint (pExpr 20 s l)) := by
  have HE := hidX (expr_all 20 w B pb src a c l am cm rv lv s ea ec 0 0 h (by omega) (by omega) (by omega) h60)
  clear h hk h60
  go_enter Tryz.func60, Tryz.ntmps60
  cases hr : pExpr 20 s l with
  | error f =>
    rw [hr] at HE
    go_wp2_with (first | (go_at_call 104; refine HE.out.mono ?_; rintro e w2 ⟨hm2, rfl⟩; unfold fltE) | fail)
    exact ⟨rfl, hm2, rfl⟩
  | ok p =>
    obtain ⟨⟨i, s'⟩, l'⟩ := p
    rw [hr] at HE
    go_wp2_with (first | (go_at_call 104; refine HE.out.mono ?_; rintro e w2 ⟨hm2, he2, hs2⟩; replace he2 : e = .returned (.int .i64 i) := he2; subst he2) | fail)
    go_ret
    exact ⟨hm2, rfl, hs2⟩
def preE {σ α : Type} (M : List α) (r : Px (List α × σ)) : Px (List α × σ) := match r with
  | .error f => .error f
  | .ok (p, l) => .ok ((M ++ p.1, p.2), l)
theorem pListE_err {σ α : Type} {rd : σ → List Wd → Px (α × σ)} {n : Nat} {s : σ} {l : List Wd} {f : Flt} (h : nextW l = .error f) : pListE rd n s l = .error f := by
  cases n <;> simp [pListE, h]
theorem pListE_end {σ α : Type} {rd : σ → List Wd → Px (α × σ)} {n : Nat} {s : σ} {l r : List Wd} {x : Wd} (h : nextW l = .ok (x, r)) (hx : pkW x = 41) : pListE rd n s l = .ok (([], s), r) := by
  cases n <;> simp [pListE, h, hx]
theorem pListE_zero {σ α : Type} {rd : σ → List Wd → Px (α × σ)} {s : σ} {l r : List Wd} {x : Wd} (h : nextW l = .ok (x, r)) (hx : pkW x ≠ 41) : pListE rd 0 s l = if pkW x = 0 then .error (3, x.pos) else .error (4, x.pos) := by
  simp [pListE, h, hx]
theorem pListE_bad {σ α : Type} {rd : σ → List Wd → Px (α × σ)} {n : Nat} {s : σ} {l r : List Wd} {x : Wd} {f : Flt} (h : nextW l = .ok (x, r)) (hx : pkW x ≠ 41) (hr : rd s l = .error f) : pListE rd (n + 1) s l = .error f := by
  simp [pListE, h, hx, hr]
theorem pListE_step {σ α : Type} {rd : σ → List Wd → Px (α × σ)} {n : Nat} {s s1 : σ} {l r l1 : List Wd} {x : Wd} {v : α} {M : List α} (h : nextW l = .ok (x, r)) (hx : pkW x ≠ 41) (hr : rd s l = .ok ((v, s1), l1)) : preE M (pListE rd (n + 1) s l) = preE (M ++ [v]) (pListE rd n s1 l1) := by
  simp only [pListE, h, hx, hr, if_false]
  cases pListE rd n s1 l1 with
  | error f => rfl
  | ok p =>
    obtain ⟨⟨vs, s2⟩, l2⟩ := p
    simp [preE]
theorem pExpr_end {f : Nat} {s : ES} {l r : List Wd} {x : Wd} (h : nextW l = .ok (x, r)) (hx : pkW x = 0) : pExpr f s l = .error (3, x.pos) := by
  have hb : boundW (s.2 : Int) 60 l = .ok ((), l) := by
    unfold boundW
    rw [h]
    simp only
    rw [if_neg (fun e => e.2.2 hx)]
  exact pExpr_else hb h (by omega) (by omega) (by omega)
theorem own_mkx {w w' : World} {base pb : Nat} {e : TypeId} {m : Nat} {v : Value} {n : Nat} {xs : List Value} {ob : Option Nat} (h : w.ownsRow base e m v n xs) (hm : MkX pb ob w w') (hp : pb < base) (ho : ∀ g, ob = some g → ∃ c, w.heap[g]? = some (.cells c 138 (0, 0))) (hne : e ≠ 138) : w'.ownsRow base e m v n xs :=
  owns_of_block h fun k hk => hm.block k (h.lt k hk).2 (fun e => by have := (h.lt k hk).1; omega) (fun eo => by
    obtain ⟨c1, e1⟩ := own_type h hk
    obtain ⟨c2, e2⟩ := ho k eo
    rw [e1] at e2
    injection e2 with e2
    injection e2 with _ e2 _
    exact hne e2)
theorem ExS.row {w : World} {B pb : Nat} {src : Bs} {a : Option Addr} {c : Nat} {l : List Wd} {am cm rv lv : Value} {s : ES} {ea : Option Addr} {ec : Nat} (h : ExS w B pb src a c l am cm rv lv s ea ec) : ∀ g, obE s ea ec = some g → ∃ c, w.heap[g]? = some (.cells c 138 (0, 0)) := fun _ hg => own_type h.ow hg
def inC (vs : List Int) : List Value := vs.map fun i => Value.int .i64 i
theorem inC_one (i : Int) : ∀ v ∈ [Value.int .i64 i], v.oneCell' = true := by
  intro v hv
  simp at hv
  subst hv
  rfl
theorem infoIF1 : (Tryz.prog.info? 3).map (fun i => (i.zero, i.size, i.bytes)) = some (some (.int .i64 0), 1, 8) := by kernel_rfl
def Ris (B : Nat) (vs : List Int) (e : Ending) (w' : World) : Prop := ∃ la lc, e = .returned (.slice la vs.length lc) ∧ w'.ownsRow B 3 1 (.slice la vs.length lc) vs.length (inC vs)
set_option maxRecDepth 100000 in
set_option maxHeartbeats 3200000 in
theorem readArgs_any (w : World) (B pb : Nat) (src : Bs) (a : Option Addr) (c : Nat) (l : List Wd) (am cm rv lv : Value) (s : ES) (ea : Option Addr) (ec : Nat) (h : ExS w B pb src a c l am cm rv lv s ea ec) (hk : s.1.length ≤ s.2) (h60 : s.2 ≤ 60) : Calls Tryz.prog 59 #[.pointer (some ⟨pb, 0, none⟩), .func (.func 60) #[.pointer (some ⟨pb, 0, none⟩)] #[]] w (EPost w B pb src a c am cm rv lv (obE s ea ec) (Ris w.heap.size) (pListE (pExpr 20) 6 s l)) := by
  have HP := hidX h
  have hpb := h.ps.lt
  have hpB := h.lt
  clear h
  go_enter Tryz.func59, Tryz.ntmps59
  go_wp2_with fail
  go_loopw [5] (fun v wr => ∃ (la : Option Addr) (lc n : Nat) (M : List Int) (s' : ES) (l' : List Wd) (ea' : Option Addr) (ec' : Nat), M.length + n = 6 ∧ v = .slice la M.length lc ∧ wr.ownsRow w.heap.size 3 1 (.slice la M.length lc) M.length (inC M) ∧ ExS wr B pb src a c l' am cm rv lv s' ea' ec' ∧ MkX pb (obE s ea ec) w wr ∧ RowX (obE s ea ec) (obE s' ea' ec') w.heap.size ∧ pListE (pExpr 20) 6 s l = preE M (pListE (pExpr 20) n s' l') ∧ s'.1.length ≤ s'.2 ∧ s'.2 ≤ 60) (fun v _ => 6 - sliceLen v)
  case atStart => exact ⟨none, 0, 6, [], s, l, ea, ec, rfl, rfl, World.ownsRow_nil _ _ _ _, HP.out, MkX.refl _ _ _, .inl rfl, by unfold preE; cases pListE (pExpr 20) 6 s l <;> rfl, hk, h60⟩
  case round =>
    obtain ⟨la, lc, n, M, s', l', ea', ec', hMn, rfl, hown, hps, hmk, hrx, hpl, hk', h60'⟩ := hrel
    have OW := hidX hown
    have PS := hidX hps
    have MK := hidX hmk
    have RX := hidX hrx
    have PL := hidX hpl
    have HAH := hidX (ahead_any wr pb src a c l' _ 41 hps.ps)
    have swr := hmk.rest.size
    clear hown hps hmk hrx hpl
    cases hr : nextW l' with
    | error f =>
      have HT : Hid (pListE (pExpr 20) 6 s l = .error f) := show _ = _ from by rw [PL.out, pListE_err hr]; rfl
      rw [hr] at HAH
      go_wp2_with (first | (go_at_call 38; refine HAH.out.mono ?_; rintro e w2 ⟨hb2, rfl⟩; unfold fltE) | fail)
      exact ⟨rfl, EPost.err HT.out (MK.out.below hb2)⟩
    | ok p =>
      obtain ⟨x, r⟩ := p
      rw [hr] at HAH
      by_cases hx : pkW x = 41
      · have HT : Hid (pListE (pExpr 20) 6 s l = .ok ((M, s'), r)) := show _ = _ from by rw [PL.out, pListE_end hr hx]; simp [preE]
        replace HAH : Hid (Calls Tryz.prog 38 #[.pointer (some ⟨pb, 0, none⟩), .int .i32 41] wr fun e w' => Below wr.heap.size wr w' ∧ e = .returned (.bool true)) := by
          rw [← decide_eq_true hx]
          exact HAH
        have HTK := hidX (fun u (hu : Below wr.heap.size wr u) => take_any u pb src a c l' _ 41 (PS.out.below hu).ps)
        rw [show takeW 41 l' = .ok (x, r) by unfold takeW; rw [hr]; simp [hx]] at HTK
        clear hx
        go_wp2_with (first | (go_at_call 38; refine HAH.out.mono ?_; rintro e w2 ⟨hb2, rfl⟩) | (go_at_call 62; refine (HTK.out _ hb2).mono ?_; rintro e w4 ⟨hm4, hw4, hp4⟩; replace hw4 : e = .returned (pwA x) := hw4; subst hw4) | fail)
        go_ret
        exact EPost.good HT.out ((MK.out.below hb2).trans (MkX.of hm4) RX.out) ⟨la, lc, rfl, own_mko (own_bel OW.out hb2) hm4 hpb⟩ ((PS.out.below hb2).mko hm4 hp4) RX.out
      · replace HAH : Hid (Calls Tryz.prog 38 #[.pointer (some ⟨pb, 0, none⟩), .int .i32 41] wr fun e w' => Below wr.heap.size wr w' ∧ e = .returned (.bool false)) := by
          rw [← decide_eq_false hx]
          exact HAH
        have HBN := hidX (fun u (hu : Below wr.heap.size wr u) => bound_any u pb src a c l' _ (M.length : Int) 6 (PS.out.below hu).ps)
        have HVA := hidX (fun u (hu : ExS u B pb src a c l' am cm rv lv s' ea' ec') => argument_any u B pb src a c l' am cm rv lv s' ea' ec' hu hk' h60')
        by_cases hn : n = 0 ∧ pkW x ≠ 0
        · have HT : Hid (pListE (pExpr 20) 6 s l = .error (4, x.pos)) := show _ = _ from by rw [PL.out, hn.1, pListE_zero hr hx, if_neg hn.2]; rfl
          rw [show boundW (M.length : Int) 6 l' = .error (4, x.pos) by unfold boundW; rw [hr]; simp only; rw [if_pos ⟨by omega, hx, hn.2⟩]] at HBN
          clear hx hn
          go_wp2_with (first | (go_at_call 38; refine HAH.out.mono ?_; rintro e w2 ⟨hb2, rfl⟩) | (go_at_call 103; refine (HBN.out _ hb2).mono ?_; rintro e w3 ⟨hm3, rfl⟩; unfold fltE) | fail)
          exact ⟨rfl, EPost.err HT.out ((MK.out.below hb2).trans (MkX.of hm3) RX.out)⟩
        · rw [show boundW (M.length : Int) 6 l' = .ok ((), l') by
            unfold boundW
            rw [hr]
            simp only
            rw [if_neg]
            rintro ⟨h1, h2, h3⟩
            exact hn ⟨by omega, h3⟩] at HBN
          cases hv : pExpr 20 s' l' with
          | error f =>
            have HT : Hid (pListE (pExpr 20) 6 s l = .error f) := show _ = _ from by
              rw [PL.out]
              cases n with
              | zero =>
                have h0 : pkW x = 0 := Classical.byContradiction fun h => hn ⟨rfl, h⟩
                rw [pListE_zero hr hx, if_pos h0]
                rw [pExpr_end hr h0] at hv
                injection hv with hv
                rw [hv]
                rfl
              | succ n =>
                rw [pListE_bad hr hx hv]
                rfl
            rw [hv] at HVA
            clear hx hn hv
            go_wp2_with (first | (go_at_call 38; refine HAH.out.mono ?_; rintro e w2 ⟨hb2, rfl⟩) | (go_at_call 103; refine (HBN.out _ hb2).mono ?_; rintro e w3 ⟨hm3, he3, hp3⟩; replace he3 : e = .returned (.tuple #[]) := he3; subst he3) | (go_at_call 60; refine (HVA.out _ ((PS.out.below hb2).mko hm3 hp3)).mono ?_; rintro e w4 ⟨hm4, rfl⟩; unfold fltE) | fail)
            exact ⟨rfl, EPost.err HT.out (((MK.out.below hb2).trans (MkX.of hm3) RX.out).trans hm4 RX.out)⟩
          | ok p =>
            obtain ⟨⟨v, s2⟩, l1⟩ := p
            obtain ⟨hk2, h62⟩ := pExpr_inv 20 s' l' l1 0 v s2 (by omega) h60' hv
            rw [hv] at HVA
            obtain ⟨n, rfl⟩ : ∃ n', n = n' + 1 := by
              cases n with
              | zero =>
                have h0 : pkW x = 0 := Classical.byContradiction fun h => hn ⟨rfl, h⟩
                rw [pExpr_end hr h0] at hv
                cases hv
              | succ n => exact ⟨n, rfl⟩
            have PL2 := hidX (PL.out.trans (pListE_step (M := M) hr hx hv))
            clear hx hn hv
            go_wp2_with (first | (go_at_call 38; refine HAH.out.mono ?_; rintro e w2 ⟨hb2, rfl⟩) | (go_at_call 103; refine (HBN.out _ hb2).mono ?_; rintro e w3 ⟨hm3, he3, hp3⟩; replace he3 : e = .returned (.tuple #[]) := he3; subst he3) | (go_at_call 60; refine (HVA.out _ ((PS.out.below hb2).mko hm3 hp3)).mono ?_; rintro e w4 ⟨hm4, hw4, ea4, ec4, hs4, hr4⟩; replace hw4 : e = .returned (.int .i64 v) := hw4; subst hw4; have s2' := hb2.size; have s3' := hm3.rest.size; have M4 := hidX (((MK.out.below hb2).trans (MkX.of hm3) RX.out).trans hm4 RX.out); have OW4 := hidX (own_mkx (own_mko (own_bel OW.out hb2) hm3 hpb) hm4 hpb ((PS.out.below hb2).mko hm3 hp3).row (by decide)); have hsz4 := M4.out.rest.size; have HA4 := hidX (fun o' => (Below.refl _ _).alloc (Nat.le_refl _) o' : ∀ o', Below w4.heap.size w4 (w4.alloc o'))) | (at_builtin; refine wpList_append_any (by rfl) (.tmp 13) (.tmp 16) 51 (by rfl) w.heap.size 3 _ 1 8 Tryz.underlying51 infoIF1 (by rfl) (by omega) _ M.length _ (by rfl) (own_bel OW4.out (HA4.out _)) (some ⟨_, 0, none⟩) 1 1 (by rfl) [.int .i64 v] (by rfl) (fun e => by cases e) (news_new _ _ _ _ (by simp)) (inC_one v) (by unfold maxLen; omega) (by omega) (by simp; omega) ?_; intro a5 c5 w5 ho5 hg5 hl5) | fail)
            have hrow : ∀ k, (Value.slice la M.length lc).ownBlock = some k → w.heap.size ≤ k := fun k hk => (OW4.out.lt k hk).1
            have TY := hidX (fun o' g hg => own_type (own_bel OW4.out (HA4.out o')) (k := g) hg)
            have HSA := hidX (fun o' => hs4.below (HA4.out o'))
            have S5 := hidX (show ExS w5 B pb src a c l1 am cm rv lv s2 ea4 ec4 from ⟨(HSA.out _).ps.keep ((Below.refl _ _).grown hg5.out (by simp; omega) (fun k hk => by have := hrow k hk; omega)), own_grown (HSA.out _).ow hg5.out (TY.out _) (by decide), hpB, Nat.le_trans (HSA.out _).le hg5.out.size⟩)
            have M5 := hidX (show MkX pb (obE s ea ec) w w5 from ⟨(M4.out.rest.trans ((HA4.out _).mono (Nat.zero_le _))).grown hg5.out (Nat.zero_le _) (fun _ _ => Nat.zero_le _), fun g hg hp ho => (hg5.out.block g (by simp; omega) (fun e => by have := hrow g e.symm; omega)).trans (((HA4.out _).block g (by omega)).trans (M4.out.block g hg hp ho))⟩)
            have RX5 := hidX (RX.out.trans hr4 (by omega))
            go_roundw
            case rel => exact ⟨a5, c5, n, M ++ [v], s2, l1, ea4, ec4, by simp; omega, by simp, by simpa [inC] using ho5.out, S5.out, M5.out, RX5.out, PL2.out, by omega, h62⟩
            case measure => (simp [sliceLen]; omega)
end Go.Proofs.YtgkoiojelckblaaGreatDoor

namespace Go.Proofs.YtgkoiojelckblaaGreatDoor
open Go.RowKit
attribute [local go_sem ↓] Go.wp_at_zero Go.wp_at_succ

def acL (x : Ac) (v : Value) : List Value := [.int .i64 x.kind, .int .i64 x.k, .string x.cls, v]
theorem acL_one (x : Ac) (a : Option Addr) (n c : Nat) : ∀ v ∈ acL x (.slice a n c), v.oneCell' = true := by
  intro v hv
  simp [acL] at hv
  rcases hv with rfl | rfl | rfl | rfl <;> rfl
theorem infoAcP : (Tryz.prog.info? 53).map (·.size) = some 4 := by kernel_rfl
/-- An action that was read: its arguments are owned. -/
def Rac (B : Nat) (x : Ac) (e : Ending) (w' : World) : Prop := ∃ la lc, e = .returned (.agg (acL x (.slice la x.args.length lc)).toArray) ∧ w'.ownsRow B 3 1 (.slice la x.args.length lc) x.args.length (inC x.args)
set_option maxHeartbeats 1600000 in
theorem pref_any (w : World) (pb : Nat) (src : Bs) (a : Option Addr) (c : Nat) (l : List Wd) (R : List Value) (h : PSt w pb src a c l R) : Calls Tryz.prog 61 #[.pointer (some ⟨pb, 0, none⟩)] w (PPost w pb src a c R Rint (pRef l)) := by
  have hfd := wfield3
  have HTK := hidX (take_any w pb src a c l R 48 h)
  clear h
  go_enter Tryz.func61, Tryz.ntmps61
  cases hr : takeW 48 l with
  | error f =>
    have HT : Hid (pRef l = .error f) := show _ = _ from by unfold pRef; rw [hr]; rfl
    rw [hr] at HTK
    go_wp2_with (first | (go_at_call 62; refine HTK.out.mono ?_; rintro e w2 ⟨hm2, rfl⟩; unfold fltE) | fail)
    exact ⟨rfl, PPost.err HT.out hm2⟩
  | ok p =>
    obtain ⟨x, l1⟩ := p
    rw [hr] at HTK
    obtain ⟨N, hN⟩ : ∃ N, N = x.num := ⟨_, rfl⟩
    have HT : Hid (pRef l = .ok (refOf N, l1)) := show _ = _ from by unfold pRef; rw [hr, hN]; rfl
    have HN := hidX hN
    clear hN hr
    by_cases h1 : N < -1000000
    · have HR : Hid (refOf N = 0) := show _ = _ from by unfold refOf; rw [if_pos (.inl h1)]
      go_wp2_with (first | (go_at_call 62; refine HTK.out.mono ?_; rintro e w2 ⟨hm2, hw2, hp2⟩; replace hw2 : e = .returned (pwA x) := hw2; subst hw2; unfold pwA; rw [← HN.out]) | fail)
      go_ret
      exact PPost.good HT.out hm2 (by rw [HR.out]; rfl) hp2
    · by_cases h2 : 1000000 < N
      · have HR : Hid (refOf N = 0) := show _ = _ from by unfold refOf; rw [if_pos (.inr h2)]
        go_wp2_with (first | (go_at_call 62; refine HTK.out.mono ?_; rintro e w2 ⟨hm2, hw2, hp2⟩; replace hw2 : e = .returned (pwA x) := hw2; subst hw2; unfold pwA; rw [← HN.out]) | fail)
        go_ret
        exact PPost.good HT.out hm2 (by rw [HR.out]; rfl) hp2
      · have HR : Hid (refOf N = N) := show _ = _ from by unfold refOf; rw [if_neg (by omega)]
        go_wp2_with (first | (go_at_call 62; refine HTK.out.mono ?_; rintro e w2 ⟨hm2, hw2, hp2⟩; replace hw2 : e = .returned (pwA x) := hw2; subst hw2; unfold pwA; rw [← HN.out]) | fail)
        go_ret
        exact PPost.good HT.out hm2 (by rw [HR.out]; rfl) hp2
set_option maxRecDepth 100000 in
set_option maxHeartbeats 1600000 in
theorem phalt_any (w : World) (B pb : Nat) (src : Bs) (a : Option Addr) (c : Nat) (l : List Wd) (am cm rv lv : Value) (s : ES) (ea : Option Addr) (ec : Nat) (h : ExS w B pb src a c l am cm rv lv s ea ec) (hk : s.1.length ≤ s.2) (h60 : s.2 ≤ 60) : Calls Tryz.prog 31 #[.pointer (some ⟨pb, 0, none⟩)] w (EPost w B pb src a c am cm rv lv (obE s ea ec) (Rac w.heap.size) (aHalt s l)) := by
  have hmf : ∀ (fn : Fn) (first cap : Array Value) (w : World), (Instr.makeFunc fn first cap).run Tryz.prog w = .ok (.func fn first cap) w := fun _ _ _ _ => rfl
  have HP := hidX h
  have hpb := h.ps.lt
  have OB0 := hidX (fun k (hk : obE s ea ec = some k) => (HP.out.ow.lt k hk).2)
  have HK := hidX hk
  have H60 := hidX h60
  clear h hk h60
  go_enter Tryz.func31, Tryz.ntmps31
  go_upto_region 1 with fail
  refine lift_alloc ?_
  intro w1 hW1 hq1
  have P1 := hidX (HP.out.below hW1)
  have M1 := hidX (MkX.of (MkO.of_below hW1) : MkX pb (obE s ea ec) w w1)
  have hrb : w.heap.size < w1.heap.size := lt_of_block' hq1
  have HQ1 := hidX hq1
  clear hW1 hq1
  have HTK := hidX (take_any w1 pb src a c l _ 41 P1.out.ps)
  cases hr : takeW 41 l with
  | error f =>
    have HT : Hid (aHalt s l = .error f) := show _ = _ from by unfold aHalt; rw [hr]; rfl
    rw [hr] at HTK
    go_wp2_with (first | (go_at_call 62; refine HTK.out.mono ?_; rintro e w2 ⟨hm2, rfl⟩; unfold fltE) | fail)
    exact ⟨rfl, EPost.err HT.out (M1.out.trans (MkX.of hm2) (.inl rfl))⟩
  | ok p =>
    obtain ⟨x, l1⟩ := p
    have HT : Hid (aHalt s l = .ok ((⟨4, 0, mkS [], []⟩, s), l1)) := show _ = _ from by unfold aHalt; rw [hr]; rfl
    rw [hr] at HTK
    go_wp2_with (first | (go_at_call 62; refine HTK.out.mono ?_; rintro e w2 ⟨hm2, hw2, hp2⟩; replace hw2 : e = .returned (pwA x) := hw2; subst hw2; unfold pwA; have hr2 := (hm2.block w.heap.size hrb (fun e => by injection e; omega)).trans HQ1.out) | (refine wpList_store_blk (by rfl) 53 (.tmp 2) (.tmp 5) (by rfl) w.heap.size (acL ⟨4, 0, mkS [], []⟩ (.slice none 0 0)) (by rfl) (by rfl) _ 53 hr2 (by rfl) infoAcP (acL_one _ _ _ _) ?_; intro w5 hb5 ht5) | fail)
    have hld := run_loadVar_mid (P := Tryz.prog) w5 w.heap.size 0 53 (acL ⟨4, 0, mkS [], []⟩ (.slice none 0 0)) _ (range_blk hb5.out) Tryz.underlying53 rfl infoAcP
    (try go_frame)
    exact bodyPost_ret (v := .agg (acL ⟨4, 0, mkS [], []⟩ (.slice none 0 0)).toArray) (by simp [results, Tryz.results31, asAddr, hld]) rfl (EPost.good HT.out ((M1.out.trans (MkX.of hm2) (.inl rfl)).turn ht5.out (Nat.le_refl _)) ⟨none, 0, rfl, World.ownsRow_nil _ _ _ _⟩ ((P1.out.mko hm2 hp2).turned ht5.out (by omega) hr2 (fun _ k hk => by have := OB0.out k hk; omega)) (.inl rfl))
set_option maxRecDepth 100000 in
set_option maxHeartbeats 1600000 in
theorem pdrop_any (w : World) (B pb : Nat) (src : Bs) (a : Option Addr) (c : Nat) (l : List Wd) (am cm rv lv : Value) (s : ES) (ea : Option Addr) (ec : Nat) (h : ExS w B pb src a c l am cm rv lv s ea ec) (hk : s.1.length ≤ s.2) (h60 : s.2 ≤ 60) : Calls Tryz.prog 29 #[.pointer (some ⟨pb, 0, none⟩)] w (EPost w B pb src a c am cm rv lv (obE s ea ec) (Rac w.heap.size) (aDrop s l)) := by
  have hmf : ∀ (fn : Fn) (first cap : Array Value) (w : World), (Instr.makeFunc fn first cap).run Tryz.prog w = .ok (.func fn first cap) w := fun _ _ _ _ => rfl
  have HP := hidX h
  have hpb := h.ps.lt
  have OB0 := hidX (fun k (hk : obE s ea ec = some k) => (HP.out.ow.lt k hk).2)
  have HK := hidX hk
  have H60 := hidX h60
  clear h hk h60
  go_enter Tryz.func29, Tryz.ntmps29
  go_upto_region 1 with fail
  refine lift_alloc ?_
  intro w1 hW1 hq1
  have P1 := hidX (HP.out.below hW1)
  have M1 := hidX (MkX.of (MkO.of_below hW1) : MkX pb (obE s ea ec) w w1)
  have hrb : w.heap.size < w1.heap.size := lt_of_block' hq1
  have HQ1 := hidX hq1
  clear hW1 hq1
  have HRF := hidX (pref_any w1 pb src a c l _ P1.out.ps)
  cases hr : pRef l with
  | error f =>
    have HT : Hid (aDrop s l = .error f) := show _ = _ from by unfold aDrop; rw [hr]; rfl
    rw [hr] at HRF
    go_wp2_with (first | (go_at_call 61; refine HRF.out.mono ?_; rintro e w2 ⟨hm2, rfl⟩; unfold fltE) | fail)
    exact ⟨rfl, EPost.err HT.out (M1.out.trans (MkX.of hm2) (.inl rfl))⟩
  | ok p =>
    obtain ⟨K, l1⟩ := p
    rw [hr] at HRF
    go_upto_region 2 with (first | (go_at_call 61; refine HRF.out.mono ?_; rintro e w2 ⟨hm2, hw2, hp2⟩; replace hw2 : e = .returned (.int .i64 K) := hw2; subst hw2) | fail)
    refine lift_alloc ?_
    intro w3 hW3 hq3
    replace hq3 : w3.heap[w2.heap.size]? = some (.cells (acL ⟨2, K, mkS [], []⟩ (.slice none 0 0)).toArray 53 (0, 0)) := hq3
    have s2 := hm2.rest.size
    have s3 : w2.heap.size < w3.heap.size := lt_of_block' hq3
    have P3 := hidX ((P1.out.mko hm2 hp2).below hW3)
    have M3 := hidX ((M1.out.trans (MkX.of hm2) (.inl rfl)).below hW3)
    have HRB := hidX ((hW3.block w.heap.size (by omega)).trans ((hm2.block w.heap.size hrb (fun e => by injection e; omega)).trans HQ1.out))
    have HTK := hidX (take_any w3 pb src a c l1 _ 41 P3.out.ps)
    clear hW3 hm2 hp2
    cases hs : takeW 41 l1 with
    | error f =>
      have HT : Hid (aDrop s l = .error f) := show _ = _ from by unfold aDrop; rw [hr, andP_okX, hs]; rfl
      rw [hs] at HTK
      go_wp2_with (first | (go_at_call 62; refine HTK.out.mono ?_; rintro e w4 ⟨hm4, rfl⟩; unfold fltE) | fail)
      exact ⟨rfl, EPost.err HT.out (M3.out.trans (MkX.of hm4) (.inl rfl))⟩
    | ok q =>
      obtain ⟨y, l2⟩ := q
      have HT : Hid (aDrop s l = .ok ((⟨2, K, mkS [], []⟩, s), l2)) := show _ = _ from by unfold aDrop; rw [hr, andP_okX, hs]; rfl
      rw [hs] at HTK
      go_wp2_with (first | (go_at_call 62; refine HTK.out.mono ?_; rintro e w4 ⟨hm4, hw4, hp4⟩; replace hw4 : e = .returned (pwA y) := hw4; subst hw4; have s4 := hm4.rest.size; have hq4 := (hm4.block w2.heap.size s3 (fun e => by injection e; omega)).trans hq3; have hr4 := (hm4.block w.heap.size (by omega) (fun e => by injection e; omega)).trans HRB.out) | (refine wpList_load_blk (by rfl) 53 (.tmp 3) (by rfl) w2.heap.size (acL ⟨2, K, mkS [], []⟩ (.slice none 0 0)) (by rfl) 53 (0, 0) hq4 _ Tryz.underlying53 rfl infoAcP ?_) | (refine wpList_store_blk (by rfl) 53 (.tmp 2) (.tmp 9) (by rfl) w.heap.size (acL ⟨2, K, mkS [], []⟩ (.slice none 0 0)) (by rfl) (by rfl) _ 53 hr4 (by rfl) infoAcP (acL_one _ _ _ _) ?_; intro w5 hb5 ht5) | fail)
      have hld := run_loadVar_mid (P := Tryz.prog) w5 w.heap.size 0 53 (acL ⟨2, K, mkS [], []⟩ (.slice none 0 0)) _ (range_blk hb5.out) Tryz.underlying53 rfl infoAcP
      (try go_frame)
      exact bodyPost_ret (v := .agg (acL ⟨2, K, mkS [], []⟩ (.slice none 0 0)).toArray) (by simp [results, Tryz.results29, asAddr, hld]) rfl (EPost.good HT.out ((M3.out.trans (MkX.of hm4) (.inl rfl)).turn ht5.out (Nat.le_refl _)) ⟨none, 0, rfl, World.ownsRow_nil _ _ _ _⟩ ((P3.out.mko hm4 hp4).turned ht5.out (by omega) hr4 (fun _ k hk => by have := OB0.out k hk; omega)) (.inl rfl))
set_option maxRecDepth 100000 in
set_option maxHeartbeats 1600000 in
theorem pmod_any (w : World) (B pb : Nat) (src : Bs) (a : Option Addr) (c : Nat) (l : List Wd) (am cm rv lv : Value) (s : ES) (ea : Option Addr) (ec : Nat) (h : ExS w B pb src a c l am cm rv lv s ea ec) (hk : s.1.length ≤ s.2) (h60 : s.2 ≤ 60) : Calls Tryz.prog 30 #[.pointer (some ⟨pb, 0, none⟩)] w (EPost w B pb src a c am cm rv lv (obE s ea ec) (Rac w.heap.size) (aMod s l)) := by
  have hmf : ∀ (fn : Fn) (first cap : Array Value) (w : World), (Instr.makeFunc fn first cap).run Tryz.prog w = .ok (.func fn first cap) w := fun _ _ _ _ => rfl
  have HP := hidX h
  have hpb := h.ps.lt
  have OB0 := hidX (fun k (hk : obE s ea ec = some k) => (HP.out.ow.lt k hk).2)
  have HK := hidX hk
  have H60 := hidX h60
  clear h hk h60
  go_enter Tryz.func30, Tryz.ntmps30
  go_upto_region 1 with fail
  refine lift_alloc ?_
  intro w1 hW1 hq1
  have P1 := hidX (HP.out.below hW1)
  have M1 := hidX (MkX.of (MkO.of_below hW1) : MkX pb (obE s ea ec) w w1)
  have hrb : w.heap.size < w1.heap.size := lt_of_block' hq1
  have HQ1 := hidX hq1
  clear hW1 hq1
  have HRF := hidX (pref_any w1 pb src a c l _ P1.out.ps)
  cases hr : pRef l with
  | error f =>
    have HT : Hid (aMod s l = .error f) := show _ = _ from by unfold aMod; rw [hr]; rfl
    rw [hr] at HRF
    go_wp2_with (first | (go_at_call 61; refine HRF.out.mono ?_; rintro e w2 ⟨hm2, rfl⟩; unfold fltE) | fail)
    exact ⟨rfl, EPost.err HT.out (M1.out.trans (MkX.of hm2) (.inl rfl))⟩
  | ok p =>
    obtain ⟨K, l1⟩ := p
    rw [hr] at HRF
    have HAR := hidX (fun u (hu : ExS u B pb src a c l1 am cm rv lv s ea ec) => readArgs_any u B pb src a c l1 am cm rv lv s ea ec hu HK.out H60.out)
    cases hs : pListE (pExpr 20) 6 s l1 with
    | error f =>
      have HT : Hid (aMod s l = .error f) := show _ = _ from by unfold aMod; rw [hr, andP_okX, hs]; rfl
      rw [hs] at HAR
      go_wp2_with (first | (go_at_call 61; refine HRF.out.mono ?_; rintro e w2 ⟨hm2, hw2, hp2⟩; replace hw2 : e = .returned (.int .i64 K) := hw2; subst hw2) | (go_at_call 59; refine (HAR.out _ (P1.out.mko hm2 hp2)).mono ?_; rintro e w4 ⟨hm4, rfl⟩; unfold fltE) | fail)
      exact ⟨rfl, EPost.err HT.out ((M1.out.trans (MkX.of hm2) (.inl rfl)).trans hm4 (.inl rfl))⟩
    | ok q =>
      obtain ⟨⟨vs, s'⟩, l2⟩ := q
      have HT : Hid (aMod s l = .ok ((⟨3, K, mkS [], vs⟩, s'), l2)) := show _ = _ from by unfold aMod; rw [hr, andP_okX, hs]; rfl
      rw [hs] at HAR
      go_wp2_with (first | (go_at_call 61; refine HRF.out.mono ?_; rintro e w2 ⟨hm2, hw2, hp2⟩; replace hw2 : e = .returned (.int .i64 K) := hw2; subst hw2) | (go_at_call 59; refine (HAR.out _ (P1.out.mko hm2 hp2)).mono ?_; rintro e w4 ⟨hm4, ⟨la, lc, rfl, ho4⟩, ea4, ec4, hs4, hr4⟩; have s2 := hm2.rest.size; have s4 := hm4.rest.size; have hq4 := (hm4.block w.heap.size (by omega) (by omega) (fun e => by have := OB0.out _ e; omega)).trans ((hm2.block w.heap.size hrb (fun e => by injection e; omega)).trans HQ1.out)) | (refine wpList_store_blk (by rfl) 53 (.tmp 2) (.tmp 9) (by rfl) w.heap.size (acL ⟨3, K, mkS [], vs⟩ (.slice la vs.length lc)) (by rfl) (by rfl) _ 53 hq4 (by rfl) infoAcP (acL_one _ _ _ _) ?_; intro w5 hb5 ht5) | fail)
      have OB4 : ∀ k, obE s' ea4 ec4 = some k → k ≠ w.heap.size := fun k hk => by
        rcases hr4 with e | e
        · have := OB0.out k (e ▸ hk)
          omega
        · have := e k hk
          omega
      have hld := run_loadVar_mid (P := Tryz.prog) w5 w.heap.size 0 53 (acL ⟨3, K, mkS [], vs⟩ (.slice la vs.length lc)) _ (range_blk hb5.out) Tryz.underlying53 rfl infoAcP
      (try go_frame)
      exact bodyPost_ret (v := .agg (acL ⟨3, K, mkS [], vs⟩ (.slice la vs.length lc)).toArray) (by simp [results, Tryz.results30, asAddr, hld]) rfl (EPost.good HT.out (((M1.out.trans (MkX.of hm2) (.inl rfl)).trans hm4 (.inl rfl)).turn ht5.out (Nat.le_refl _)) ⟨la, lc, rfl, owns_base (own_turn ho4 ht5.out hq4 (by decide)) (by omega)⟩ (hs4.turned ht5.out (by omega) hq4 (fun _ => OB4)) (hr4.imp id fun h g hg => by have := h g hg; omega))
set_option maxRecDepth 100000 in
set_option maxHeartbeats 1600000 in
theorem padd_any (w : World) (B pb : Nat) (src : Bs) (a : Option Addr) (c : Nat) (l : List Wd) (am cm rv lv : Value) (s : ES) (ea : Option Addr) (ec : Nat) (h : ExS w B pb src a c l am cm rv lv s ea ec) (hk : s.1.length ≤ s.2) (h60 : s.2 ≤ 60) : Calls Tryz.prog 28 #[.pointer (some ⟨pb, 0, none⟩)] w (EPost w B pb src a c am cm rv lv (obE s ea ec) (Rac w.heap.size) (aAdd s l)) := by
  have hmf : ∀ (fn : Fn) (first cap : Array Value) (w : World), (Instr.makeFunc fn first cap).run Tryz.prog w = .ok (.func fn first cap) w := fun _ _ _ _ => rfl
  have HP := hidX h
  have hpb := h.ps.lt
  have OB0 := hidX (fun k (hk : obE s ea ec = some k) => (HP.out.ow.lt k hk).2)
  have HK := hidX hk
  have H60 := hidX h60
  clear h hk h60
  go_enter Tryz.func28, Tryz.ntmps28
  go_upto_region 1 with fail
  refine lift_alloc ?_
  intro w1 hW1 hq1
  have P1 := hidX (HP.out.below hW1)
  have M1 := hidX (MkX.of (MkO.of_below hW1) : MkX pb (obE s ea ec) w w1)
  have hrb : w.heap.size < w1.heap.size := lt_of_block' hq1
  have HQ1 := hidX hq1
  clear hW1 hq1
  have HRF := hidX (class_any w1 pb src a c l _ P1.out.ps)
  cases hr : pClass l with
  | error f =>
    have HT : Hid (aAdd s l = .error f) := show _ = _ from by unfold aAdd; rw [hr]; rfl
    rw [hr] at HRF
    go_wp2_with (first | (go_at_call 58; refine HRF.out.mono ?_; rintro e w2 ⟨hm2, rfl⟩; unfold fltE) | fail)
    exact ⟨rfl, EPost.err HT.out (M1.out.trans (MkX.of hm2) (.inl rfl))⟩
  | ok p =>
    obtain ⟨t, l1⟩ := p
    rw [hr] at HRF
    have HAR := hidX (fun u (hu : ExS u B pb src a c l1 am cm rv lv s ea ec) => readArgs_any u B pb src a c l1 am cm rv lv s ea ec hu HK.out H60.out)
    cases hs : pListE (pExpr 20) 6 s l1 with
    | error f =>
      have HT : Hid (aAdd s l = .error f) := show _ = _ from by unfold aAdd; rw [hr, andP_okX, hs]; rfl
      rw [hs] at HAR
      go_wp2_with (first | (go_at_call 58; refine HRF.out.mono ?_; rintro e w2 ⟨hm2, hw2, hp2⟩; replace hw2 : e = .returned (.string (mkS t)) := hw2; subst hw2) | (go_at_call 59; refine (HAR.out _ (P1.out.mko hm2 hp2)).mono ?_; rintro e w4 ⟨hm4, rfl⟩; unfold fltE) | fail)
      exact ⟨rfl, EPost.err HT.out ((M1.out.trans (MkX.of hm2) (.inl rfl)).trans hm4 (.inl rfl))⟩
    | ok q =>
      obtain ⟨⟨vs, s'⟩, l2⟩ := q
      have HT : Hid (aAdd s l = .ok ((⟨1, 0, mkS t, vs⟩, s'), l2)) := show _ = _ from by unfold aAdd; rw [hr, andP_okX, hs]; rfl
      rw [hs] at HAR
      go_wp2_with (first | (go_at_call 58; refine HRF.out.mono ?_; rintro e w2 ⟨hm2, hw2, hp2⟩; replace hw2 : e = .returned (.string (mkS t)) := hw2; subst hw2) | (go_at_call 59; refine (HAR.out _ (P1.out.mko hm2 hp2)).mono ?_; rintro e w4 ⟨hm4, ⟨la, lc, rfl, ho4⟩, ea4, ec4, hs4, hr4⟩; have s2 := hm2.rest.size; have s4 := hm4.rest.size; have hq4 := (hm4.block w.heap.size (by omega) (by omega) (fun e => by have := OB0.out _ e; omega)).trans ((hm2.block w.heap.size hrb (fun e => by injection e; omega)).trans HQ1.out)) | (refine wpList_store_blk (by rfl) 53 (.tmp 2) (.tmp 9) (by rfl) w.heap.size (acL ⟨1, 0, mkS t, vs⟩ (.slice la vs.length lc)) (by rfl) (by rfl) _ 53 hq4 (by rfl) infoAcP (acL_one _ _ _ _) ?_; intro w5 hb5 ht5) | fail)
      have OB4 : ∀ k, obE s' ea4 ec4 = some k → k ≠ w.heap.size := fun k hk => by
        rcases hr4 with e | e
        · have := OB0.out k (e ▸ hk)
          omega
        · have := e k hk
          omega
      have hld := run_loadVar_mid (P := Tryz.prog) w5 w.heap.size 0 53 (acL ⟨1, 0, mkS t, vs⟩ (.slice la vs.length lc)) _ (range_blk hb5.out) Tryz.underlying53 rfl infoAcP
      (try go_frame)
      exact bodyPost_ret (v := .agg (acL ⟨1, 0, mkS t, vs⟩ (.slice la vs.length lc)).toArray) (by simp [results, Tryz.results28, asAddr, hld]) rfl (EPost.good HT.out (((M1.out.trans (MkX.of hm2) (.inl rfl)).trans hm4 (.inl rfl)).turn ht5.out (Nat.le_refl _)) ⟨la, lc, rfl, owns_base (own_turn ho4 ht5.out hq4 (by decide)) (by omega)⟩ (hs4.turned ht5.out (by omega) hq4 (fun _ => OB4)) (hr4.imp id fun h g hg => by have := h g hg; omega))
end Go.Proofs.YtgkoiojelckblaaGreatDoor

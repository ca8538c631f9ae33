/-
  OUR OWN TEXT. Pt4, Pt5, Pt6, Pt7, one behind the other.
-/
import Derived.Test.YtjjjagepnnbebaaGreatDoorKbf
import Derived.Test.YtjjjagepnnbebaaGreatDoorHwm
import Derived.Deep.CutBlock
import Derived.Deep.DeepCutAuto
namespace Go.Proofs.YtjjjagepnnbebaaGreatDoor
open Go.RowKit
attribute [local go_sem ↓] Go.wp_at_zero Go.wp_at_succ

theorem infoExP : (Tryz.prog.info? 97).map (·.size) = some 8 := by kernel_rfl
theorem infoEF1 : (Tryz.prog.info? 97).map (fun i => (i.zero, i.size, i.bytes)) = some (some (.agg #[.int .i64 0, .int .u8 0, .string ⟨#[]⟩, .int .i64 0, .int .i64 0, .string ⟨#[]⟩, .int .i64 0, .int .i64 0]), 8, 80) := by kernel_rfl
/-- w' is w but for block pb, the row ob, and new ones. -/
structure MkX (pb : Nat) (ob : Option Nat) (w w' : World) : Prop where
  rest : Below 0 w w'
  block : ∀ g, g < w.heap.size → pb ≠ g → ob ≠ some g → w'.heap[g]? = w.heap[g]?
theorem MkX.refl (pb : Nat) (ob : Option Nat) (w : World) : MkX pb ob w w := ⟨Below.refl _ _, fun _ _ _ _ => rfl⟩
theorem MkX.of {pb : Nat} {ob : Option Nat} {w w' : World} (h : MkO (some pb) w w') : MkX pb ob w w' := ⟨h.rest, fun g hg hp _ => h.block g hg (fun e => hp (by injection e))⟩
/-- The row stayed, or is new. -/
def RowX (ob ob' : Option Nat) (n : Nat) : Prop := ob' = ob ∨ ∀ g, ob' = some g → n ≤ g
theorem MkX.trans {pb : Nat} {ob ob1 : Option Nat} {u v w : World} (h : MkX pb ob u v) (k : MkX pb ob1 v w) (hr : RowX ob ob1 u.heap.size) : MkX pb ob u w :=
  ⟨h.rest.trans k.rest, fun g hg hp ho => (k.block g (Nat.lt_of_lt_of_le hg h.rest.size) hp (fun e => by
    rcases hr with hr | hr
    · exact ho (hr ▸ e)
    · have := hr g e
      omega)).trans (h.block g hg hp ho)⟩
theorem RowX.trans {ob ob1 ob2 : Option Nat} {n m : Nat} (h : RowX ob ob1 n) (k : RowX ob1 ob2 m) (hn : n ≤ m) : RowX ob ob2 n := by
  rcases k with k | k
  · rw [k]; exact h
  · exact .inr fun g hg => Nat.le_trans hn (k g hg)
theorem MkX.turn {pb : Nat} {ob : Option Nat} {w w2 w3 : World} {r : Nat} (h : MkX pb ob w w2) (ht : Turned w2 w3 r) (hr : w.heap.size ≤ r) : MkX pb ob w w3 :=
  ⟨h.rest.trans (ht.below (Nat.zero_le _)), fun g hg hp ho => (ht.block g (by omega)).trans (h.block g hg hp ho)⟩
theorem MkX.below {pb : Nat} {ob : Option Nat} {u v w : World} (h : MkX pb ob u v) (k : Below v.heap.size v w) : MkX pb ob u w :=
  ⟨h.rest.trans (k.mono (Nat.zero_le _)), fun g hg hp ho => (k.block g (Nat.lt_of_lt_of_le hg h.rest.size)).trans (h.block g hg hp ho)⟩
def RE (am cm rv lv : Value) (s : ES) (ea : Option Addr) (ec : Nat) : List Value := RL am cm rv lv (.slice ea s.1.length ec) (.int .i64 (s.2 : Int))
/-- The parser with the exprs of the rule at hand. -/
structure ExS (w : World) (B pb : Nat) (src : Bs) (a : Option Addr) (c : Nat) (l : List Wd) (am cm rv lv : Value) (s : ES) (ea : Option Addr) (ec : Nat) : Prop where
  ps : PSt w pb src a c l (RE am cm rv lv s ea ec)
  ow : w.ownsRow B 97 8 (.slice ea s.1.length ec) s.1.length (s.1.flatMap exC)
  lt : pb < B
  le : B ≤ w.heap.size
abbrev obE (s : ES) (ea : Option Addr) (ec : Nat) : Option Nat := (Value.slice ea s.1.length ec).ownBlock
theorem ExS.below {w w' : World} {B pb : Nat} {src : Bs} {a : Option Addr} {c : Nat} {l : List Wd} {am cm rv lv : Value} {s : ES} {ea : Option Addr} {ec : Nat} (h : ExS w B pb src a c l am cm rv lv s ea ec) (hb : Below w.heap.size w w') : ExS w' B pb src a c l am cm rv lv s ea ec := ⟨h.ps.below hb, own_bel h.ow hb, h.lt, Nat.le_trans h.le hb.size⟩
theorem ExS.mko {w w' : World} {B pb : Nat} {src : Bs} {a : Option Addr} {c : Nat} {l l' : List Wd} {am cm rv lv : Value} {s : ES} {ea : Option Addr} {ec : Nat} (h : ExS w B pb src a c l am cm rv lv s ea ec) (hm : MkO (some pb) w w') (hp : PSt w' pb src a c l' (RE am cm rv lv s ea ec)) : ExS w' B pb src a c l' am cm rv lv s ea ec := ⟨hp, own_mko h.ow hm h.lt, h.lt, Nat.le_trans h.le hm.rest.size⟩
theorem ExS.turned {w w' : World} {B pb g : Nat} {src : Bs} {a : Option Addr} {c : Nat} {l : List Wd} {am cm rv lv : Value} {s : ES} {ea : Option Addr} {ec : Nat} {cs : Array Value} {t : TypeId} (h : ExS w B pb src a c l am cm rv lv s ea ec) (ht : Turned w w' g) (hg : pb < g) (hb : w.heap[g]? = some (.cells cs t (0, 0))) (hne : g < w.heap.size → ∀ k, obE s ea ec = some k → k ≠ g) : ExS w' B pb src a c l am cm rv lv s ea ec :=
  ⟨h.ps.turned ht hg, owns_of_block h.ow fun k hk => ht.block k (hne (lt_of_block' hb) k hk), h.lt, by rw [ht.size]; exact h.le⟩
/-- What reading leaves that may add exprs. -/
def EPost {α : Type} (w : World) (B pb : Nat) (src : Bs) (a : Option Addr) (c : Nat) (am cm rv lv : Value) (ob : Option Nat) (Q : α → Ending → World → Prop) (r : Px (α × ES)) (e : Ending) (w' : World) : Prop := MkX pb ob w w' ∧ match r with
  | .error f => e = fltE f
  | .ok (p, l) => Q p.1 e w' ∧ ∃ ea ec, ExS w' B pb src a c l am cm rv lv p.2 ea ec ∧ RowX ob (obE p.2 ea ec) w.heap.size
theorem EPost.err {α : Type} {w w' : World} {B pb : Nat} {src : Bs} {a : Option Addr} {c : Nat} {am cm rv lv : Value} {ob : Option Nat} {Q : α → Ending → World → Prop} {r : Px (α × ES)} {f : Flt} (hr : r = .error f) (hm : MkX pb ob w w') : EPost w B pb src a c am cm rv lv ob Q r (fltE f) w' := by
  subst hr
  exact ⟨hm, rfl⟩
theorem EPost.good {α : Type} {w w' : World} {B pb : Nat} {src : Bs} {a : Option Addr} {c : Nat} {am cm rv lv : Value} {ob : Option Nat} {Q : α → Ending → World → Prop} {r : Px (α × ES)} {x : α} {s : ES} {l : List Wd} {e : Ending} {ea : Option Addr} {ec : Nat} (hr : r = .ok ((x, s), l)) (hm : MkX pb ob w w') (hq : Q x e w') (hs : ExS w' B pb src a c l am cm rv lv s ea ec) (ho : RowX ob (obE s ea ec) w.heap.size) : EPost w B pb src a c am cm rv lv ob Q r e w' := by
  subst hr
  exact ⟨hm, hq, ea, ec, hs, ho⟩
def Rint (i : Int) (e : Ending) (_ : World) : Prop := e = .returned (.int .i64 i)
def Rex (x : Ex) (e : Ending) (_ : World) : Prop := e = .returned (.agg (exC x).toArray)
/-- What an expr's reading tells, at every state. -/
def ExprC (f : Nat) : Prop := ∀ (w : World) (B pb : Nat) (src : Bs) (a : Option Addr) (c : Nat) (l : List Wd) (am cm rv lv : Value) (s : ES) (ea : Option Addr) (ec : Nat) (d : Int) (k : Nat), ExS w B pb src a c l am cm rv lv s ea ec → 0 ≤ d → d + (f : Int) = 20 → s.1.length + k ≤ s.2 → s.2 ≤ 60 → Calls Tryz.prog 131 #[.pointer (some ⟨pb, 0, none⟩), .int .i64 d] w (EPost w B pb src a c am cm rv lv (obE s ea ec) Rint (pExpr f s l))
theorem arith_head {x : Wd} (h : pkW x = 43) : ∃ b, ptW x = [b] := by
  unfold pkW at h
  split at h
  · omega
  · split at h
    · omega
    · split at h
      · omega
      · rename_i h0 h1 h2
        unfold ptW
        rw [if_neg h0, if_neg h1, if_neg h2]
        unfold pkind at h
        unfold ptext
        split at h
        · omega
        · split at h
          · omega
          · split at h
            · omega
            · split at h
              · omega
              · split at h
                · rename_i g1 g2 g3 g4 g5
                  rw [if_neg g1, if_neg g2, if_neg g3, if_neg g4, if_pos g5]
                  exact ar_one g5
                · split at h
                  · omega
                  · split at h <;> omega
set_option maxRecDepth 100000 in
set_option maxHeartbeats 3200000 in
theorem poper_of (f : Nat) (hE : ExprC f) (w : World) (B pb : Nat) (src : Bs) (a : Option Addr) (c : Nat) (l : List Wd) (am cm rv lv : Value) (s : ES) (ea : Option Addr) (ec : Nat) (d : Int) (k : Nat) (h : ExS w B pb src a c l am cm rv lv s ea ec) (hd0 : 0 ≤ d) (hd : d + 1 + (f : Int) = 20) (hk : s.1.length + k ≤ s.2) (h60 : s.2 ≤ 60) : Calls Tryz.prog 158 #[.pointer (some ⟨pb, 0, none⟩), .int .i64 d] w (EPost w B pb src a c am cm rv lv (obE s ea ec) Rex (pOp f s l)) := by
  have hwf2 := wfield2
  have HP := hidX h
  have hpb := h.ps.lt
  have hBl := h.le
  have hpB := h.lt
  have HE := hidX hE
  clear h hE
  go_enter Tryz.func158, Tryz.ntmps158
  go_upto_region 1 with fail
  refine lift_alloc ?_
  intro w1 hW1 hq1
  have P1 := hidX (HP.out.below hW1)
  have HTK := hidX (take_any w1 pb src a c l _ 43 P1.out.ps)
  have hrb : w.heap.size < w1.heap.size := lt_of_block' hq1
  have M1 := hidX (MkX.of (MkO.of_below hW1) : MkX pb (obE s ea ec) w w1)
  have HQ1 := hidX hq1
  have OB0 := hidX (fun k (hk : obE s ea ec = some k) => (HP.out.ow.lt k hk).2)
  clear hW1 hq1
  cases hr : takeW 43 l with
  | error e =>
    have HT : Hid (pOp f s l = .error e) := show _ = _ from by unfold pOp; rw [hr]; rfl
    rw [hr] at HTK
    go_wp2_with (first | (go_at_call 85; refine HTK.out.mono ?_; rintro e w2 ⟨hm2, rfl⟩; unfold fltE) | fail)
    exact ⟨rfl, EPost.err HT.out (M1.out.trans (MkX.of hm2) (.inl rfl))⟩
  | ok p =>
    obtain ⟨o, l1⟩ := p
    rw [hr] at HTK
    obtain ⟨b, hb⟩ := arith_head (takeW_ok hr).2
    have HOP : Hid (pOp f s l = andP (pExpr f s l1) fun p l2 => andP (pExpr f p.2 l2) fun q l3 => andP (takeW 41 l3) fun _ l4 => .ok ((⟨2, (b.toNat : Int), mkS [], zVr, p.1, q.1⟩, q.2), l4)) := show _ = _ from by unfold pOp; rw [hr, andP_okX, hb]; rfl
    have HBB := hidX hb
    have hb1 : (0 : Nat) < (mkS [b]).size := Nat.zero_lt_one
    have hb2 : ((mkS [b])[0]'hb1) = b := rfl
    clear hb hr
    go_upto_region 2 with (first | (go_at_call 85; refine HTK.out.mono ?_; rintro e w2 ⟨hm2, hw2, hp2⟩; replace hw2 : e = .returned (pwA o) := hw2; subst hw2; unfold pwA; rw [HBB.out]) | fail)
    refine lift_alloc ?_
    intro w3 hW3 hq3
    have s2 := hm2.rest.size
    have s3 : w2.heap.size < w3.heap.size := lt_of_block' hq3
    have P3 := hidX ((P1.out.mko hm2 hp2).below hW3)
    have M3 := hidX ((M1.out.trans (MkX.of hm2) (.inl rfl)).below hW3)
    have HQ3 := hidX (show w3.heap[w2.heap.size]? = some (.cells (exC ⟨2, (b.toNat : Int), mkS [], zVr, 0, 0⟩).toArray 97 (0, 0)) from hq3)
    have HRB3 := hidX ((hW3.block w.heap.size (by omega)).trans ((hm2.block w.heap.size hrb (fun e => by injection e; omega)).trans HQ1.out))
    have HE1 := hidX (HE.out w3 B pb src a c l1 am cm rv lv s ea ec (d + 1) k P3.out (by omega) hd hk h60)
    have hd2 : d + 1 ≤ 20 := by omega
    clear hW3 hq3 hm2 hp2 HTK HQ1 M1 P1 hb1 hb2
    cases h1 : pExpr f s l1 with
    | error e =>
      have HT : Hid (pOp f s l = .error e) := show _ = _ from by rw [HOP.out, h1]; rfl
      rw [h1] at HE1
      clear h1
      go_wp2_with (first | (go_at_call 131; refine HE1.out.mono ?_; rintro e w4 ⟨hm4, rfl⟩; unfold fltE) | fail)
      exact ⟨rfl, EPost.err HT.out (M3.out.trans hm4 (.inl rfl))⟩
    | ok p =>
      obtain ⟨⟨i, s1⟩, l2⟩ := p
      obtain ⟨hk1, h61⟩ := pExpr_inv f s l1 l2 k i s1 hk h60 h1
      rw [h1] at HE1
      have HOP1 : Hid (pOp f s l = andP (pExpr f s1 l2) fun q l3 => andP (takeW 41 l3) fun _ l4 => .ok ((⟨2, (b.toNat : Int), mkS [], zVr, i, q.1⟩, q.2), l4)) := show _ = _ from by rw [HOP.out, h1]; rfl
      clear h1 HOP
      go_upto_region 3 with (first | (go_at_call 131; refine HE1.out.mono ?_; rintro e w4 ⟨hm4, he4, ea1, ec1, hs4, hr4⟩; replace he4 : e = .returned (.int .i64 i) := he4; subst he4; have OB4 := (show ∀ k, obE s1 ea1 ec1 = some k → k ≠ w2.heap.size from fun k hk => by (rcases hr4 with e | e; (have := OB0.out k (e ▸ hk); omega); (have := e k hk; omega))); have s4 := hm4.rest.size; have hq4 := (hm4.block w2.heap.size s3 (by omega) (fun e => by have := OB0.out _ e; omega)).trans HQ3.out; have d6 := cell_of hq4 (j := 6) rfl; have f6 := froz_of hq4 6) | fail)
      have HRB4 := hidX ((hm4.block w.heap.size (by omega) (by omega) (fun e => by have := OB0.out _ e; omega)).trans HRB3.out)
      have M4 := hidX (M3.out.trans hm4 (.inl rfl))
      have HOR := hidX (show ∀ k, obE s1 ea1 ec1 = some k → k ≠ w.heap.size from fun k hk => by (rcases hr4 with e | e; (have := OB0.out k (e ▸ hk); omega); (have := e k hk; omega)))
      have R4 := hidX (show RowX (obE s ea ec) (obE s1 ea1 ec1) w.heap.size from hr4.imp id fun h g hg => by have := h g hg; omega)
      refine lift_setW hq4 ?_
      intro w5 hq5 ht5
      have HQ5 := hidX (show w5.heap[w2.heap.size]? = some (.cells (exC ⟨2, (b.toNat : Int), mkS [], zVr, i, 0⟩).toArray 97 (0, 0)) from hq5)
      have P5 := hidX (hs4.turned ht5 (by omega) hq4 (fun _ => OB4))
      have M5 := hidX (M4.out.turn ht5 (by omega))
      have s5 := ht5.size
      have s5' : w4.heap.size ≤ w5.heap.size := Nat.le_of_eq s5.symm
      have HRB5 := hidX ((ht5.block w.heap.size (by omega)).trans HRB4.out)
      have HOB := hidX OB4
      have HE2 := hidX (HE.out w5 B pb src a c l2 am cm rv lv s1 ea1 ec1 (d + 1) k P5.out (by omega) hd hk1 h61)
      clear hm4 hs4 hr4 hq4 hq5 ht5 s5 d6 f6 HE1 HQ3 HRB3 M3 P3 HRB4 M4 OB4
      cases h2 : pExpr f s1 l2 with
      | error e =>
        have HT : Hid (pOp f s l = .error e) := show _ = _ from by rw [HOP1.out, h2]; rfl
        rw [h2] at HE2
        clear h2
        go_wp2_with (first | (go_at_call 131; refine HE2.out.mono ?_; rintro e w6 ⟨hm6, rfl⟩; unfold fltE) | fail)
        exact ⟨rfl, EPost.err HT.out (M5.out.trans hm6 R4.out)⟩
      | ok p =>
        obtain ⟨⟨j, sq⟩, l3⟩ := p
        rw [h2] at HE2
        have HOP2 : Hid (pOp f s l = andP (takeW 41 l3) fun _ l4 => .ok ((⟨2, (b.toNat : Int), mkS [], zVr, i, j⟩, sq), l4)) := show _ = _ from by rw [HOP1.out, h2]; rfl
        clear h2 HOP1
        go_upto_region 4 with (first | (go_at_call 131; refine HE2.out.mono ?_; rintro e w6 ⟨hm6, he6, ea2, ec2, hs6, hr6⟩; replace he6 : e = .returned (.int .i64 j) := he6; subst he6; have OB6 := (show ∀ k, obE sq ea2 ec2 = some k → k ≠ w2.heap.size from fun k hk => by (rcases hr6 with e | e; (exact HOB.out k (e ▸ hk)); (have := e k hk; omega))); have s6 := hm6.rest.size; have hq6 := (hm6.block w2.heap.size (by omega) (by omega) (fun e => HOB.out _ e rfl)).trans HQ5.out; have d7 := cell_of hq6 (j := 7) rfl; have f7 := froz_of hq6 7) | fail)
        have HRB6 := hidX ((hm6.block w.heap.size (by omega) (by omega) (fun e => HOR.out _ e rfl)).trans HRB5.out)
        have HOR6 := hidX (show ∀ k, obE sq ea2 ec2 = some k → k ≠ w.heap.size from fun k hk => by (rcases hr6 with e | e; (exact HOR.out k (e ▸ hk)); (have := e k hk; omega)))
        have M6 := hidX (M5.out.trans hm6 R4.out)
        have R6 := hidX (R4.out.trans hr6 (by omega))
        refine lift_setW hq6 ?_
        intro w7 hq7 ht7
        have HQ7 := hidX (show w7.heap[w2.heap.size]? = some (.cells (exC ⟨2, (b.toNat : Int), mkS [], zVr, i, j⟩).toArray 97 (0, 0)) from hq7)
        have P7 := hidX (hs6.turned ht7 (by omega) hq6 (fun _ => OB6))
        have M7 := hidX (M6.out.turn ht7 (by omega))
        have s7 := ht7.size
        have s7' : w6.heap.size ≤ w7.heap.size := Nat.le_of_eq s7.symm
        have HRB7 := hidX ((ht7.block w.heap.size (by omega)).trans HRB6.out)
        have HTK := hidX (take_any w7 pb src a c l3 _ 41 P7.out.ps)
        clear hm6 hs6 hr6 hq6 hq7 ht7 s7 d7 f7 HE2 HQ5 HRB5 M5 P5 HRB6 M6 OB6
        cases h3 : takeW 41 l3 with
        | error e =>
          have HT : Hid (pOp f s l = .error e) := show _ = _ from by rw [HOP2.out, h3]; rfl
          rw [h3] at HTK
          clear h3
          go_wp2_with (first | (go_at_call 85; refine HTK.out.mono ?_; rintro e w8 ⟨hm8, rfl⟩; unfold fltE) | fail)
          exact ⟨rfl, EPost.err HT.out (M7.out.trans (MkX.of hm8) R6.out)⟩
        | ok p =>
          obtain ⟨y, l4⟩ := p
          have HT : Hid (pOp f s l = .ok ((⟨2, (b.toNat : Int), mkS [], zVr, i, j⟩, sq), l4)) := show _ = _ from by rw [HOP2.out, h3]; rfl
          rw [h3] at HTK
          clear h3
          go_upto_region 5 with (first | (go_at_call 85; refine HTK.out.mono ?_; rintro e w8 ⟨hm8, hw8, hp8⟩; replace hw8 : e = .returned (pwA y) := hw8; subst hw8; unfold pwA) | fail)
          have s8 := hm8.rest.size
          have hq8 := (hm8.block w2.heap.size (by omega) (fun e => by injection e; omega)).trans HQ7.out
          have hr8 := (hm8.block w.heap.size (by omega) (fun e => by injection e; omega)).trans HRB7.out
          have M8 := hidX (M7.out.trans (MkX.of hm8) R6.out)
          have P8 := hidX (P7.out.mko hm8 hp8)
          clear hm8 hp8 HTK
          go_wp2_with (first | (refine wpList_load_blk (by rfl) 97 (.tmp 5) (by rfl) w2.heap.size (exC ⟨2, (b.toNat : Int), mkS [], zVr, i, j⟩) (by rfl) 97 (0, 0) hq8 _ Tryz.underlying97 rfl infoExP ?_) | (refine wpList_store_blk (by rfl) 97 (.tmp 4) (.tmp 23) (by rfl) w.heap.size (exC ⟨2, (b.toNat : Int), mkS [], zVr, i, j⟩) (by rfl) (by rfl) _ 97 hr8 (by rfl) infoExP (exC_one _) ?_; intro w9 hb9 ht9) | fail)
          have hld := run_loadVar_mid (P := Tryz.prog) w9 w.heap.size 0 97 (exC ⟨2, (b.toNat : Int), mkS [], zVr, i, j⟩) _ (range_blk hb9.out) Tryz.underlying97 rfl infoExP
          (try go_frame)
          exact bodyPost_ret (v := .agg (exC ⟨2, (b.toNat : Int), mkS [], zVr, i, j⟩).toArray) (by simp [results, Tryz.results158, asAddr, hld]) rfl (EPost.good HT.out (M8.out.turn ht9.out (Nat.le_refl _)) rfl (P8.out.turned ht9.out (by omega) hr8 (fun _ => HOR6.out)) R6.out)
end Go.Proofs.YtjjjagepnnbebaaGreatDoor

namespace Go.Proofs.YtjjjagepnnbebaaGreatDoor
open Go.RowKit
attribute [local go_sem ↓] Go.wp_at_zero Go.wp_at_succ

/-- One of the parser's own cells written. -/
theorem PSt.cellSet {w w' : World} {pb j : Nat} {src : Bs} {a : Option Addr} {c : Nat} {l : List Wd} {R : List Value} {v : Value} (h : PSt w pb src a c l R) (hv : w' = w.setCell ⟨pb, j + 2, none⟩ v) : PSt w' pb src a c l (R.set j v) := by
  subst hv
  obtain ⟨k, hs⟩ := h.sc
  have hb : Below pb w (w.setCell ⟨pb, j + 2, none⟩ v) := (Turned.setCells [v] (j + 2) w pb).below (Nat.le_refl pb)
  obtain ⟨k', hk', e', hw'⟩ := hs.pos
  refine ⟨⟨k, ⟨?_, rfl, hs.cap, hs.len, hs.bys.keep hs.far hb, hs.far, k', hk', ?_, hw'⟩⟩, h.env.keep hb⟩
  · have := heap_setCell_same (i := j + 2) hs.blk v
    rw [this]
    simp
  · simpa using e'
theorem ExS.begun {w w' : World} {B pb : Nat} {src : Bs} {a : Option Addr} {c : Nat} {l : List Wd} {am cm rv lv : Value} {s : ES} {ea : Option Addr} {ec : Nat} (h : ExS w B pb src a c l am cm rv lv s ea ec) (n : Nat) (hv : w' = w.setCell ⟨pb, 7, none⟩ (.int .i64 (n : Int))) : ExS w' B pb src a c l am cm rv lv (s.1, n) ea ec := by
  refine ⟨h.ps.cellSet (j := 5) hv, ?_, h.lt, ?_⟩
  · subst hv
    refine owns_of_block h.ow fun k hk => Below.heap_setCell _ _ _ _ (fun e => ?_)
    have := (h.ow.lt k hk).1
    have := h.lt
    simp at e
    omega
  · subst hv
    have := h.le
    simp [World.setCell]
    exact this
theorem lift_eq {P : World → Prop} {w : World} (h : ∀ wt, wt = w → P wt) : P w := h _ rfl
/-- A read expr stands in its box. -/
structure ExB (w wx : World) (B pb eb : Nat) (src : Bs) (a : Option Addr) (c : Nat) (am cm rv lv : Value) (ob : Option Nat) (r : Px (Int × ES)) (x : Ex) (s : ES) (l : List Wd) (ea : Option Addr) (ec : Nat) : Prop where
  mo : MkX pb ob w wx
  st : ExS wx B pb src a c l am cm rv lv s ea ec
  rw' : RowX ob (obE s ea ec) w.heap.size
  bx : wx.heap[eb]? = some (.cells (exC x).toArray 97 (0, 0))
  ne : ∀ k, obE s ea ec = some k → k ≠ eb
  pe : r = .ok (((s.1.length : Int), (s.1 ++ [x], s.2)), l)
  le : s.1.length ≤ 60
set_option maxRecDepth 100000 in
set_option maxHeartbeats 6400000 in
theorem pexpr_of (f : Nat) (hO : ∀ f', f = f' + 1 → ExprC f') : ExprC f := by
  intro w B pb src a c l am cm rv lv s ea ec d k h hd0 hd hk h60
  have HP := hidX h
  have hpb := h.ps.lt
  have hBl := h.le
  have hpB := h.lt
  have HO := hidX hO
  have c7 := h.ps.cell (j := 5) rfl
  have OB0 := hidX (fun k (hk : obE s ea ec = some k) => (HP.out.ow.lt k hk).2)
  have HBN := hidX (bound_any w pb src a c l _ (s.2 : Int) 60 h.ps)
  have HD := hidX hd
  clear h hO
  go_enter Tryz.func131, Tryz.ntmps131
  cases hb : boundW (s.2 : Int) 60 l with
  | error e =>
    have HT := hidX (pExpr_bad (f := f) hb)
    rw [hb] at HBN
    clear hb
    go_wp2_with (first | (go_at_call 130; refine HBN.out.mono ?_; rintro e w2 ⟨hm2, rfl⟩; unfold fltE) | fail)
    exact ⟨rfl, EPost.err HT.out (MkX.of hm2)⟩
  | ok u =>
    have hu := bound_same hb
    subst hu
    have HB := hidX hb
    rw [hb] at HBN
    clear hb
    go_upto_region 2 with (first | (go_at_call 130; refine HBN.out.mono ?_; rintro e w2 ⟨hm2, he2, hp2⟩; replace he2 : e = .returned (.tuple #[]) := he2; subst he2) | fail)
    have P2 := hidX (HP.out.mko hm2 hp2)
    have M2 := hidX (MkX.of hm2 : MkX pb (obE s ea ec) w w2)
    have s2 := hm2.rest.size
    have d7 := P2.out.ps.cell (j := 5) rfl
    obtain ⟨cs2, hq2⟩ : ∃ cs, w2.heap[pb]? = some (.cells cs 56 (0, 0)) := by
      obtain ⟨k', hs'⟩ := P2.out.ps.sc
      exact ⟨_, hs'.blk⟩
    have f7 := froz_of hq2 7
    clear hm2 hp2 HBN c7
    go_upto_region 3 with fail
    refine lift_eq ?_
    intro w3 hw3
    replace hw3 : w3 = w2.setCell ⟨pb, 7, none⟩ (.int .i64 ((s.2 + 1 : Nat) : Int)) := hw3.trans (by rw [show ((s.2 + 1 : Nat) : Int) = (s.2 : Int) + 1 by omega])
    have P3 := hidX (P2.out.begun (s.2 + 1) hw3)
    have m3 : MkO (some pb) w2 w3 := by rw [hw3]; exact MkO.set _
    have M3 := hidX (M2.out.trans (MkX.of m3) (.inl rfl))
    have s3 := m3.rest.size
    clear hw3 m3 d7 f7 hq2 P2 M2
    go_upto_region 4 with fail
    refine lift_alloc ?_
    intro w4 hW4 hq4
    have s4 : w3.heap.size < w4.heap.size := lt_of_block' hq4
    have P4 := hidX (P3.out.below hW4)
    have M4 := hidX (M3.out.below hW4)
    have HQ4 := hidX hq4
    have HPN := hidX (pnext_any w4 pb src a c l _ P4.out.ps)
    clear hW4 hq4 P3 M3
    cases hn : nextW l with
    | error e =>
      have HT := hidX (pExpr_next (f := f) HB.out hn)
      rw [hn] at HPN
      clear hn
      go_wp2_with (first | (go_at_call 132; refine HPN.out.mono ?_; rintro e w5 ⟨hm5, rfl⟩; unfold fltE) | fail)
      exact ⟨rfl, EPost.err HT.out (M4.out.trans (MkX.of hm5) (.inl rfl))⟩
    | ok p =>
      obtain ⟨x, l1⟩ := p
      rw [hn] at HPN
      have HN := hidX hn
      clear hn
      go_upto_region 5 with (first | (go_at_call 132; refine HPN.out.mono ?_; rintro e w5 ⟨hm5, hw5, hp5⟩; replace hw5 : e = .returned (pwA x) := hw5; subst hw5; unfold pwA) | fail)
      refine lift_alloc ?_
      intro w6 hW6 hq6
      obtain ⟨L, X, HLX, hLl, hq6, y0⟩ := wd_box hq6
      have s5 := hm5.rest.size
      have s6 : w5.heap.size < w6.heap.size := lt_of_block' hq6
      have P6 := hidX ((P4.out.mko hm5 hp5).below hW6)
      have M6 := hidX ((M4.out.trans (MkX.of hm5) (.inl rfl)).below hW6)
      have hqe := (hW6.block w3.heap.size (by omega)).trans ((hm5.block w3.heap.size s4 (fun e => by injection e; omega)).trans HQ4.out)
      have y2 := (wd_text HLX hq6).1
      have HXK := hidX HLX.out.1
      clear hW6 hm5 hp5 HPN HQ4 P4 M4
      go_upto_block 0 with fail
      go_cut [] (fun wx => ∃ x' s' l' ea' ec', ExB w wx B pb w3.heap.size src a c am cm rv lv (obE s ea ec) (pExpr f s l) x' s' l' ea' ec')
      case first =>
        by_cases hk2 : X = 48 ∨ X = 97
        · have HT := hidX (pExpr_const (f := f) HB.out HN.out (by rw [← HXK.out]; exact hk2))
          have hlt : s.2 < 60 := bound_lt HB.out HN.out (by rw [← HXK.out]; omega) (by rw [← HXK.out]; omega)
          obtain ⟨v, hv⟩ : ∃ v, v = wVal (pkW x) x.num (ptW x) := ⟨_, rfl⟩
          have HVL := hidX (value_L HLX)
          rw [← hv] at HT HVL
          have hor : (X == 48) = true ∨ ((X == 48) = false ∧ (X == 97) = true) := by
            rcases hk2 with h | h
            · exact .inl (by simp [h])
            · exact .inr ⟨by simp [h], by simp [h]⟩
          clear hk2 hv
          rcases hor with e1 | ⟨e1, e2⟩
          all_goals
            go_wp2_with (first | (refine wpList_load_blk (by rfl) 131 (.tmp 6) (by rfl) w5.heap.size L (by rfl) 131 (0, 0) hq6 _ Tryz.underlying131 rfl hLl.1 ?_) | (go_at_call 133; refine (HVL.out _).mono ?_; intro e w7 hv7; obtain ⟨he7, hb7⟩ := hv7; replace he7 : e = .returned (.agg #[.int .i64 v.kind, .int .i64 v.num, .string v.sym]) := he7; subst he7; have hq7 := (hb7.block w3.heap.size (by omega)).trans hqe) | (refine wpList_store_blk (by rfl) 97 (.tmp 5) (.tmp 34) (by rfl) w3.heap.size (exC ⟨0, 0, mkS [], v, 0, 0⟩) (by rfl) (by rfl) _ 97 hq7 (by rfl) infoExP (exC_one _) ?_; intro w8 hb8 ht8) | fail)
            go_meet
            exact ⟨⟨0, 0, mkS [], v, 0, 0⟩, (s.1, s.2 + 1), l1, ea, ec, (M6.out.below hb7).turn ht8.out (by omega), (P6.out.below hb7).turned ht8.out (by omega) hq7 (fun _ k hk => by have := OB0.out k hk; omega), .inl rfl, hb8.out, fun k hk => by (have := OB0.out k hk; omega), HT.out, by (show s.1.length ≤ 60); omega⟩
        have e1 : (X == 48) = false := by simp; omega
        have e2 : (X == 97) = false := by simp; omega
        by_cases h63 : X = 63
        · have HT := hidX (pExpr_var (f := f) HB.out HN.out (by rw [← HXK.out]; exact h63))
          have hlt : s.2 < 60 := bound_lt HB.out HN.out (by rw [← HXK.out]; omega) (by rw [← HXK.out]; omega)
          have e3 : (X == 63) = true := by simp [h63]
          clear hk2 h63
          go_wp2_with (first | (refine wpList_store_blk (by rfl) 97 (.tmp 5) (.tmp 39) (by rfl) w3.heap.size (exC ⟨1, 0, mkS (ptW x), zVr, 0, 0⟩) (by rfl) (by rfl) _ 97 hqe (by rfl) infoExP (exC_one _) ?_; intro w8 hb8 ht8) | fail)
          go_meet
          exact ⟨⟨1, 0, mkS (ptW x), zVr, 0, 0⟩, (s.1, s.2 + 1), l1, ea, ec, M6.out.turn ht8.out (by omega), P6.out.turned ht8.out (by omega) hqe (fun _ k hk => by have := OB0.out k hk; omega), .inl rfl, hb8.out, fun k hk => by (have := OB0.out k hk; omega), HT.out, by (show s.1.length ≤ 60); omega⟩
        have e3 : (X == 63) = false := by simp [h63]
        by_cases h40 : X = 40
        · have hlt : s.2 < 60 := bound_lt HB.out HN.out (by rw [← HXK.out]; omega) (by rw [← HXK.out]; omega)
          have e4 : (X == 40) = true := by simp [h40]
          cases f with
          | zero =>
            have HT := hidX (pExpr_deep HB.out HN.out (by rw [← HXK.out]; exact h40))
            have hd20 : (20 : Int) ≤ d := by omega
            clear hk2 h63 h40
            go_wp2_with (first | (refine wpList_load_blk (by rfl) 131 (.tmp 6) (by rfl) w5.heap.size L (by rfl) 131 (0, 0) hq6 _ Tryz.underlying131 rfl hLl.1 ?_) | (go_at_call 93; refine (fault_L HLX 4 _).mono ?_; rintro e w7 ⟨rfl, hb7⟩) | fail)
            exact ⟨rfl, EPost.err HT.out (M6.out.below hb7)⟩
          | succ f' =>
            have HT := hidX (pExpr_op (f := f') HB.out HN.out (by rw [← HXK.out]; exact h40))
            have hd20 : d < 20 := by omega
            have HOP := hidX (poper_of f' (HO.out f' rfl) w6 B pb src a c l1 am cm rv lv (s.1, s.2 + 1) ea ec d (k + 1) P6.out hd0 (by omega) (by (show s.1.length + (k + 1) ≤ s.2 + 1); omega) (by (show s.2 + 1 ≤ 60); omega))
            clear hk2 h63 h40
            cases ho : pOp f' (s.1, s.2 + 1) l1 with
            | error e =>
              have HTE : Hid (pExpr (f' + 1) s l = .error e) := show _ = _ from by rw [HT.out, ho]; rfl
              rw [ho] at HOP
              clear ho
              go_wp2_with (first | (go_at_call 158; refine HOP.out.mono ?_; rintro e w7 ⟨hm7, rfl⟩; unfold fltE) | fail)
              exact ⟨rfl, EPost.err HTE.out (M6.out.trans hm7 (.inl rfl))⟩
            | ok q =>
              obtain ⟨⟨ex, sq⟩, l5⟩ := q
              have HTE : Hid (pExpr (f' + 1) s l = .ok (((sq.1.length : Int), (sq.1 ++ [ex], sq.2)), l5)) := show _ = _ from by rw [HT.out, ho]; rfl
              have hinv := pExpr_inv (f' + 1) s l l5 k _ _ hk h60 HTE.out
              have hle : sq.1.length ≤ 60 := by simp at hinv; omega
              rw [ho] at HOP
              clear ho hinv
              go_wp2_with (first | (go_at_call 158; refine HOP.out.mono ?_; rintro e w7 ⟨hm7, he7, ea1, ec1, hs7, hr7⟩; replace he7 : e = .returned (.agg (exC ex).toArray) := he7; subst he7; have hq7 := (hm7.block w3.heap.size (by omega) (by omega) (fun e => by have := OB0.out _ e; omega)).trans hqe) | (refine wpList_store_blk (by rfl) 97 (.tmp 5) (.tmp 49) (by rfl) w3.heap.size (exC ex) (by rfl) (by rfl) _ 97 hq7 (by rfl) infoExP (exC_one _) ?_; intro w8 hb8 ht8) | fail)
              have OB7 : ∀ k, obE sq ea1 ec1 = some k → k ≠ w3.heap.size := fun k hk => by
                rcases hr7 with e | e
                · have := OB0.out k (e ▸ hk)
                  omega
                · have := e k hk
                  omega
              go_meet
              exact ⟨ex, sq, l5, ea1, ec1, (M6.out.trans hm7 (.inl rfl)).turn ht8.out (by omega), hs7.turned ht8.out (by omega) hq7 (fun _ => OB7), hr7.imp id fun h g hg => by (have := h g hg; omega), hb8.out, OB7, HTE.out, hle⟩
        · have HT := hidX (pExpr_else (f := f) HB.out HN.out (by rw [← HXK.out]; exact hk2) (by rw [← HXK.out]; exact h63) (by rw [← HXK.out]; exact h40))
          have e4 : (X == 40) = false := by simp [h40]
          clear hk2 h63 h40
          go_wp2_with (first | (refine wpList_load_blk (by rfl) 131 (.tmp 6) (by rfl) w5.heap.size L (by rfl) 131 (0, 0) hq6 _ Tryz.underlying131 rfl hLl.1 ?_) | (go_at_call 93; refine (fault_L HLX 3 _).mono ?_; rintro e w7 ⟨rfl, hb7⟩) | fail)
          exact ⟨rfl, EPost.err HT.out (M6.out.below hb7)⟩
      case rest =>
        obtain ⟨xe, s', l', ea', ec', hxb⟩ := hcut
        obtain ⟨w7, rfl⟩ : ∃ v, v = wc := ⟨wc, rfl⟩
        clear P6 M6 hqe y2 y0 hq6 HXK HLX hLl HN HB
        have XB := hidX hxb
        have hle := hxb.le
        have d6 := hxb.st.ps.cell (j := 4) rfl
        have g0 := cell_of hxb.bx (j := 0) rfl
        have g1 := cell_of hxb.bx (j := 1) rfl
        have g2 := cell_of hxb.bx (j := 2) rfl
        have g3 := cell_of hxb.bx (j := 3) rfl
        have g4 := cell_of hxb.bx (j := 4) rfl
        have g5 := cell_of hxb.bx (j := 5) rfl
        have g6 := cell_of hxb.bx (j := 6) rfl
        have g7 := cell_of hxb.bx (j := 7) rfl
        have hel : w3.heap.size < w7.heap.size := lt_of_block' hxb.bx
        have hws7 := hxb.mo.rest.size
        clear hxb
        go_upto_region 16 with fail
        refine wp_region_noPanic ?_
        refine wp_region_held_drew (S := (fun _ => True)) (by kernel_rfl) ?_ (fun hHeld => ?_)
        · (try dsimp only)
          all_goals trivial
        refine tk 0 hHeld ?_
        (try simp only [pA, pZ, pS])
        refine tk 1 hHeld ?_
        (try simp only [pA, pZ, pS])
        refine tk 2 hHeld ?_
        (try simp only [pA, pZ, pS])
        refine tk 3 hHeld ?_
        (try simp only [pA, pZ, pS])
        refine wpAnyH_ready (rs := [4, 5]) (by kernel_rfl) (by simp) ?_
        refine AllReadyH.cons (o := ?o1) ?ho1 (fun K hK => ?step1) (AllReadyH.cons (o := ?o2) ?ho2 (fun K hK => ?step2) AllReadyH.nil)
        case ho1 => (simp only [List.getElem?_toArray, List.getElem?_cons_succ, List.getElem?_cons_zero]; rfl)
        case ho2 => (simp only [List.getElem?_toArray, List.getElem?_cons_succ, List.getElem?_cons_zero]; rfl)
        case step1 =>
          go_simp
          refine hK.out _ _ ?hS3 (fun hHeld' => ?rest3)
          case hS3 => ((try dsimp only); all_goals trivial)
          clear hK K
          (try simp only [pA, pZ, pS])
          clear hHeld
          have hHeld := hHeld'
          clear hHeld'
          refine wpAnyH_ready (rs := [5]) (by kernel_rfl) (by simp) ?_
          refine AllReadyH.cons (o := ?o4) ?ho4 (fun K hK => ?step4) AllReadyH.nil
          case ho4 => (simp only [List.getElem?_toArray, List.getElem?_cons_succ, List.getElem?_cons_zero]; rfl)
          go_simp
          refine hK.out _ _ ?hS5 (fun hHeld' => ?rest5)
          case hS5 => ((try dsimp only); all_goals trivial)
          clear hK K
          (try simp only [pA, pZ, pS])
          clear hHeld
          have hHeld := hHeld'
          clear hHeld'
          refine wpAnyH_ready (rs := [6]) (by kernel_rfl) (by simp) ?_
          refine AllReadyH.cons (o := ?o6) ?ho6 (fun K hK => ?step6) AllReadyH.nil
          case ho6 => (simp only [List.getElem?_toArray, List.getElem?_cons_succ, List.getElem?_cons_zero]; rfl)
          go_simp
          have HA7 := hidX (fun o' => (Below.refl _ _).alloc (Nat.le_refl _) o' : ∀ o', Below w7.drew.heap.size w7.drew (w7.drew.alloc o')); have d6a : ∀ o', (w7.drew.alloc o').cell? ⟨pb, 6, none⟩ = some (.slice ea' s'.1.length ec') := fun o' => cell_below (HA7.out o') d6; have d6b : ∀ o', (w7.alloc o').drew.cell? ⟨pb, 6, none⟩ = some (.slice ea' s'.1.length ec') := d6a; have d6c : ∀ o', (w7.alloc o').cell? ⟨pb, 6, none⟩ = some (.slice ea' s'.1.length ec') := d6a
          refine hK.out _ _ ?hS7 (fun hHeld' => ?rest7)
          case hS7 => ((try dsimp only); all_goals trivial)
          clear hK K
          (try simp only [pA, pZ, pS])
          clear hHeld
          have hHeld := hHeld'
          clear hHeld'
          have OW7 := hidX (own_bel XB.out.st.ow ((Below.refl _ _).drew))
          refine wpAnyH_ready (rs := [7]) (by kernel_rfl) (by simp) ?_
          refine AllReadyH.cons (o := ?o8) ?ho8 (fun K hK => ?step8) AllReadyH.nil
          case ho8 => (simp only [List.getElem?_toArray, List.getElem?_cons_succ, List.getElem?_cons_zero]; rfl)
          (refine step_append_any (by rfl) (.tmp 54) (.tmp 56) 36 (by rfl) B 97 _ 8 80 Tryz.underlying36 infoEF1 (by rfl) (by omega) _ s'.1.length _ (by rfl) (own_bel OW7.out (HA7.out _)) (some ⟨_, 0, none⟩) 1 1 (by rfl) (exC xe) (by rfl) (fun e => by cases e) (news_new _ _ _ _ (by simp)) (exC_one xe) (by unfold maxLen; omega) (by omega) (by simp; omega) ?_; intro a8 c8 w8 ho8 hg8 hl8)
          refine hK.out _ _ ?hS9 (fun hHeld' => ?rest9)
          case hS9 => ((try dsimp only); all_goals trivial)
          clear hK K
          (try simp only [pA, pZ, pS])
          clear hHeld
          have hHeld := hHeld'
          clear hHeld'
          have hrow : ∀ k, obE s' ea' ec' = some k → B ≤ k := fun k hk => (OW7.out.lt k hk).1
          have HBA := hidX (fun o' => (XB.out.st.ps.below ((Below.refl _ _).drew)).below (HA7.out o'))
          have P8 := hidX ((HBA.out _).keep ((Below.refl _ _).grown hg8.out (by simp; omega) (fun k hk => by have := hrow k hk; omega)))
          have f6 := P8.out.cell (j := 4) rfl
          obtain ⟨cs8, hq8⟩ : ∃ cs, w8.heap[pb]? = some (.cells cs 56 (0, 0)) := by
            obtain ⟨k', hs'⟩ := P8.out.sc
            exact ⟨_, hs'.blk⟩
          have z6 := froz_of hq8 6
          refine tk 8 hHeld ?_
          (try simp only [pA, pZ, pS])
          refine tk 9 hHeld ?_
          (try simp only [pA, pZ, pS])
          refine wpAnyH_ready (rs := [10]) (by kernel_rfl) (by simp) ?_
          refine AllReadyH.cons (o := ?o10) ?ho10 (fun K hK => ?step10) AllReadyH.nil
          case ho10 => (simp only [List.getElem?_toArray, List.getElem?_cons_succ, List.getElem?_cons_zero]; rfl)
          go_simp
          refine hK.out _ _ ?hS11 (fun hHeld' => ?rest11)
          case hS11 => ((try dsimp only); all_goals trivial)
          clear hK K
          (try dsimp only)
          clear hHeld
          have hHeld := hHeld'
          clear hHeld'
          refine wpAnyH_done (by kernel_rfl) ?_ _
          refine NoPanic.normal ?_
          clear hHeld
          refine lift_eq ?_
          intro w9 hw9
          have P9 := hidX (P8.out.cellSet (j := 4) hw9)
          have m9 : MkO (some pb) w8 w9 := by rw [hw9]; exact MkO.set _
          have hg9 : MkX pb (obE s' ea' ec') w7 w8 := ⟨((Below.refl 0 w7).drew.trans ((HA7.out _).mono (Nat.zero_le _))).grown hg8.out (Nat.zero_le _) (fun _ _ => Nat.zero_le _), fun g hg _ ho => (hg8.out.block g (by simp; omega) (fun e => ho e.symm)).trans ((HA7.out _).block g hg)⟩
          have rx : RowX (obE s' ea' ec') (Value.slice a8 (s'.1.length + 1) c8).ownBlock w7.heap.size := hl8.out.imp id fun h g hg => by
            rw [h] at hg
            injection hg with hg
            simp at hg
            omega
          have M9 := hidX ((XB.out.mo.trans hg9 XB.out.rw').trans (MkX.of m9 : MkX pb (Value.slice a8 (s'.1.length + 1) c8).ownBlock w8 w9) (XB.out.rw'.trans rx hws7))
          have hs8 := hg8.out.size
          simp at hs8
          have s9 := m9.rest.size
          have S9 := hidX (show ExS w9 B pb src a c l' am cm rv lv (s'.1 ++ [xe], s'.2) a8 c8 from ⟨by simpa [RE, RL] using P9.out, by simpa using own_mko ho8.out m9 hpB, hpB, by omega⟩)
          have c9 := S9.out.ps.cell (j := 4) rfl
          have R9 := hidX (show RowX (obE s ea ec) (obE (s'.1 ++ [xe], s'.2) a8 c8) w.heap.size from by simpa [obE] using XB.out.rw'.trans rx hws7)
          clear hw9 m9 hg9 rx f6 z6 hq8 P8 P9 HBA hrow d6 g0 g1 g2 g3 g4 g5 g6 g7
          simp only [List.length_append, List.length_singleton] at c9
          go_wp2_with fail
          go_ret
          exact EPost.good XB.out.pe M9.out (by simp [Rint]) S9.out R9.out
        case step2 =>
          go_simp
          refine hK.out _ _ ?hS12 (fun hHeld' => ?rest12)
          case hS12 => ((try dsimp only); all_goals trivial)
          clear hK K
          (try simp only [pA, pZ, pS])
          clear hHeld
          have hHeld := hHeld'
          clear hHeld'
          refine wpAnyH_ready (rs := [4, 6]) (by kernel_rfl) (by simp) ?_
          refine AllReadyH.cons (o := ?o13) ?ho13 (fun K hK => ?step13) (AllReadyH.cons (o := ?o14) ?ho14 (fun K hK => ?step14) AllReadyH.nil)
          case ho13 => (simp only [List.getElem?_toArray, List.getElem?_cons_succ, List.getElem?_cons_zero]; rfl)
          case ho14 => (simp only [List.getElem?_toArray, List.getElem?_cons_succ, List.getElem?_cons_zero]; rfl)
          case step13 =>
            go_simp
            refine hK.out _ _ ?hS15 (fun hHeld' => ?rest15)
            case hS15 => ((try dsimp only); all_goals trivial)
            clear hK K
            (try simp only [pA, pZ, pS])
            clear hHeld
            have hHeld := hHeld'
            clear hHeld'
            refine wpAnyH_ready (rs := [6]) (by kernel_rfl) (by simp) ?_
            refine AllReadyH.cons (o := ?o16) ?ho16 (fun K hK => ?step16) AllReadyH.nil
            case ho16 => (simp only [List.getElem?_toArray, List.getElem?_cons_succ, List.getElem?_cons_zero]; rfl)
            go_simp
            have HA7 := hidX (fun o' => (Below.refl _ _).alloc (Nat.le_refl _) o' : ∀ o', Below w7.drew.heap.size w7.drew (w7.drew.alloc o')); have d6a : ∀ o', (w7.drew.alloc o').cell? ⟨pb, 6, none⟩ = some (.slice ea' s'.1.length ec') := fun o' => cell_below (HA7.out o') d6; have d6b : ∀ o', (w7.alloc o').drew.cell? ⟨pb, 6, none⟩ = some (.slice ea' s'.1.length ec') := d6a; have d6c : ∀ o', (w7.alloc o').cell? ⟨pb, 6, none⟩ = some (.slice ea' s'.1.length ec') := d6a
            refine hK.out _ _ ?hS17 (fun hHeld' => ?rest17)
            case hS17 => ((try dsimp only); all_goals trivial)
            clear hK K
            (try simp only [pA, pZ, pS])
            clear hHeld
            have hHeld := hHeld'
            clear hHeld'
            have OW7 := hidX (own_bel XB.out.st.ow ((Below.refl _ _).drew))
            refine wpAnyH_ready (rs := [7]) (by kernel_rfl) (by simp) ?_
            refine AllReadyH.cons (o := ?o18) ?ho18 (fun K hK => ?step18) AllReadyH.nil
            case ho18 => (simp only [List.getElem?_toArray, List.getElem?_cons_succ, List.getElem?_cons_zero]; rfl)
            (refine step_append_any (by rfl) (.tmp 54) (.tmp 56) 36 (by rfl) B 97 _ 8 80 Tryz.underlying36 infoEF1 (by rfl) (by omega) _ s'.1.length _ (by rfl) (own_bel OW7.out (HA7.out _)) (some ⟨_, 0, none⟩) 1 1 (by rfl) (exC xe) (by rfl) (fun e => by cases e) (news_new _ _ _ _ (by simp)) (exC_one xe) (by unfold maxLen; omega) (by omega) (by simp; omega) ?_; intro a8 c8 w8 ho8 hg8 hl8)
            refine hK.out _ _ ?hS19 (fun hHeld' => ?rest19)
            case hS19 => ((try dsimp only); all_goals trivial)
            clear hK K
            (try simp only [pA, pZ, pS])
            clear hHeld
            have hHeld := hHeld'
            clear hHeld'
            have hrow : ∀ k, obE s' ea' ec' = some k → B ≤ k := fun k hk => (OW7.out.lt k hk).1
            have HBA := hidX (fun o' => (XB.out.st.ps.below ((Below.refl _ _).drew)).below (HA7.out o'))
            have P8 := hidX ((HBA.out _).keep ((Below.refl _ _).grown hg8.out (by simp; omega) (fun k hk => by have := hrow k hk; omega)))
            have f6 := P8.out.cell (j := 4) rfl
            obtain ⟨cs8, hq8⟩ : ∃ cs, w8.heap[pb]? = some (.cells cs 56 (0, 0)) := by
              obtain ⟨k', hs'⟩ := P8.out.sc
              exact ⟨_, hs'.blk⟩
            have z6 := froz_of hq8 6
            refine tk 8 hHeld ?_
            (try simp only [pA, pZ, pS])
            refine tk 9 hHeld ?_
            (try simp only [pA, pZ, pS])
            refine wpAnyH_ready (rs := [10]) (by kernel_rfl) (by simp) ?_
            refine AllReadyH.cons (o := ?o20) ?ho20 (fun K hK => ?step20) AllReadyH.nil
            case ho20 => (simp only [List.getElem?_toArray, List.getElem?_cons_succ, List.getElem?_cons_zero]; rfl)
            go_simp
            refine hK.out _ _ ?hS21 (fun hHeld' => ?rest21)
            case hS21 => ((try dsimp only); all_goals trivial)
            clear hK K
            (try dsimp only)
            clear hHeld
            have hHeld := hHeld'
            clear hHeld'
            refine wpAnyH_done (by kernel_rfl) ?_ _
            refine NoPanic.normal ?_
            clear hHeld
            refine lift_eq ?_
            intro w9 hw9
            have P9 := hidX (P8.out.cellSet (j := 4) hw9)
            have m9 : MkO (some pb) w8 w9 := by rw [hw9]; exact MkO.set _
            have hg9 : MkX pb (obE s' ea' ec') w7 w8 := ⟨((Below.refl 0 w7).drew.trans ((HA7.out _).mono (Nat.zero_le _))).grown hg8.out (Nat.zero_le _) (fun _ _ => Nat.zero_le _), fun g hg _ ho => (hg8.out.block g (by simp; omega) (fun e => ho e.symm)).trans ((HA7.out _).block g hg)⟩
            have rx : RowX (obE s' ea' ec') (Value.slice a8 (s'.1.length + 1) c8).ownBlock w7.heap.size := hl8.out.imp id fun h g hg => by
              rw [h] at hg
              injection hg with hg
              simp at hg
              omega
            have M9 := hidX ((XB.out.mo.trans hg9 XB.out.rw').trans (MkX.of m9 : MkX pb (Value.slice a8 (s'.1.length + 1) c8).ownBlock w8 w9) (XB.out.rw'.trans rx hws7))
            have hs8 := hg8.out.size
            simp at hs8
            have s9 := m9.rest.size
            have S9 := hidX (show ExS w9 B pb src a c l' am cm rv lv (s'.1 ++ [xe], s'.2) a8 c8 from ⟨by simpa [RE, RL] using P9.out, by simpa using own_mko ho8.out m9 hpB, hpB, by omega⟩)
            have c9 := S9.out.ps.cell (j := 4) rfl
            have R9 := hidX (show RowX (obE s ea ec) (obE (s'.1 ++ [xe], s'.2) a8 c8) w.heap.size from by simpa [obE] using XB.out.rw'.trans rx hws7)
            clear hw9 m9 hg9 rx f6 z6 hq8 P8 P9 HBA hrow d6 g0 g1 g2 g3 g4 g5 g6 g7
            simp only [List.length_append, List.length_singleton] at c9
            go_wp2_with fail
            go_ret
            exact EPost.good XB.out.pe M9.out (by simp [Rint]) S9.out R9.out
          case step14 =>
            go_simp
            have HA7 := hidX (fun o' => (Below.refl _ _).alloc (Nat.le_refl _) o' : ∀ o', Below w7.drew.heap.size w7.drew (w7.drew.alloc o')); have d6a : ∀ o', (w7.drew.alloc o').cell? ⟨pb, 6, none⟩ = some (.slice ea' s'.1.length ec') := fun o' => cell_below (HA7.out o') d6; have d6b : ∀ o', (w7.alloc o').drew.cell? ⟨pb, 6, none⟩ = some (.slice ea' s'.1.length ec') := d6a; have d6c : ∀ o', (w7.alloc o').cell? ⟨pb, 6, none⟩ = some (.slice ea' s'.1.length ec') := d6a
            refine hK.out _ _ ?hS22 (fun hHeld' => ?rest22)
            case hS22 => ((try dsimp only); all_goals trivial)
            clear hK K
            (try simp only [pA, pZ, pS])
            clear hHeld
            have hHeld := hHeld'
            clear hHeld'
            refine wpAnyH_ready (rs := [4]) (by kernel_rfl) (by simp) ?_
            refine AllReadyH.cons (o := ?o23) ?ho23 (fun K hK => ?step23) AllReadyH.nil
            case ho23 => (simp only [List.getElem?_toArray, List.getElem?_cons_succ, List.getElem?_cons_zero]; rfl)
            go_simp
            refine hK.out _ _ ?hS24 (fun hHeld' => ?rest24)
            case hS24 => ((try dsimp only); all_goals trivial)
            clear hK K
            (try simp only [pA, pZ, pS])
            clear hHeld
            have hHeld := hHeld'
            clear hHeld'
            have OW7 := hidX (own_bel XB.out.st.ow ((Below.refl _ _).drew))
            refine wpAnyH_ready (rs := [7]) (by kernel_rfl) (by simp) ?_
            refine AllReadyH.cons (o := ?o25) ?ho25 (fun K hK => ?step25) AllReadyH.nil
            case ho25 => (simp only [List.getElem?_toArray, List.getElem?_cons_succ, List.getElem?_cons_zero]; rfl)
            (refine step_append_any (by rfl) (.tmp 54) (.tmp 56) 36 (by rfl) B 97 _ 8 80 Tryz.underlying36 infoEF1 (by rfl) (by omega) _ s'.1.length _ (by rfl) (own_bel OW7.out (HA7.out _)) (some ⟨_, 0, none⟩) 1 1 (by rfl) (exC xe) (by rfl) (fun e => by cases e) (news_new _ _ _ _ (by simp)) (exC_one xe) (by unfold maxLen; omega) (by omega) (by simp; omega) ?_; intro a8 c8 w8 ho8 hg8 hl8)
            refine hK.out _ _ ?hS26 (fun hHeld' => ?rest26)
            case hS26 => ((try dsimp only); all_goals trivial)
            clear hK K
            (try simp only [pA, pZ, pS])
            clear hHeld
            have hHeld := hHeld'
            clear hHeld'
            have hrow : ∀ k, obE s' ea' ec' = some k → B ≤ k := fun k hk => (OW7.out.lt k hk).1
            have HBA := hidX (fun o' => (XB.out.st.ps.below ((Below.refl _ _).drew)).below (HA7.out o'))
            have P8 := hidX ((HBA.out _).keep ((Below.refl _ _).grown hg8.out (by simp; omega) (fun k hk => by have := hrow k hk; omega)))
            have f6 := P8.out.cell (j := 4) rfl
            obtain ⟨cs8, hq8⟩ : ∃ cs, w8.heap[pb]? = some (.cells cs 56 (0, 0)) := by
              obtain ⟨k', hs'⟩ := P8.out.sc
              exact ⟨_, hs'.blk⟩
            have z6 := froz_of hq8 6
            refine tk 8 hHeld ?_
            (try simp only [pA, pZ, pS])
            refine tk 9 hHeld ?_
            (try simp only [pA, pZ, pS])
            refine wpAnyH_ready (rs := [10]) (by kernel_rfl) (by simp) ?_
            refine AllReadyH.cons (o := ?o27) ?ho27 (fun K hK => ?step27) AllReadyH.nil
            case ho27 => (simp only [List.getElem?_toArray, List.getElem?_cons_succ, List.getElem?_cons_zero]; rfl)
            go_simp
            refine hK.out _ _ ?hS28 (fun hHeld' => ?rest28)
            case hS28 => ((try dsimp only); all_goals trivial)
            clear hK K
            (try dsimp only)
            clear hHeld
            have hHeld := hHeld'
            clear hHeld'
            refine wpAnyH_done (by kernel_rfl) ?_ _
            refine NoPanic.normal ?_
            clear hHeld
            refine lift_eq ?_
            intro w9 hw9
            have P9 := hidX (P8.out.cellSet (j := 4) hw9)
            have m9 : MkO (some pb) w8 w9 := by rw [hw9]; exact MkO.set _
            have hg9 : MkX pb (obE s' ea' ec') w7 w8 := ⟨((Below.refl 0 w7).drew.trans ((HA7.out _).mono (Nat.zero_le _))).grown hg8.out (Nat.zero_le _) (fun _ _ => Nat.zero_le _), fun g hg _ ho => (hg8.out.block g (by simp; omega) (fun e => ho e.symm)).trans ((HA7.out _).block g hg)⟩
            have rx : RowX (obE s' ea' ec') (Value.slice a8 (s'.1.length + 1) c8).ownBlock w7.heap.size := hl8.out.imp id fun h g hg => by
              rw [h] at hg
              injection hg with hg
              simp at hg
              omega
            have M9 := hidX ((XB.out.mo.trans hg9 XB.out.rw').trans (MkX.of m9 : MkX pb (Value.slice a8 (s'.1.length + 1) c8).ownBlock w8 w9) (XB.out.rw'.trans rx hws7))
            have hs8 := hg8.out.size
            simp at hs8
            have s9 := m9.rest.size
            have S9 := hidX (show ExS w9 B pb src a c l' am cm rv lv (s'.1 ++ [xe], s'.2) a8 c8 from ⟨by simpa [RE, RL] using P9.out, by simpa using own_mko ho8.out m9 hpB, hpB, by omega⟩)
            have c9 := S9.out.ps.cell (j := 4) rfl
            have R9 := hidX (show RowX (obE s ea ec) (obE (s'.1 ++ [xe], s'.2) a8 c8) w.heap.size from by simpa [obE] using XB.out.rw'.trans rx hws7)
            clear hw9 m9 hg9 rx f6 z6 hq8 P8 P9 HBA hrow d6 g0 g1 g2 g3 g4 g5 g6 g7
            simp only [List.length_append, List.length_singleton] at c9
            go_wp2_with fail
            go_ret
            exact EPost.good XB.out.pe M9.out (by simp [Rint]) S9.out R9.out
end Go.Proofs.YtjjjagepnnbebaaGreatDoor

namespace Go.Proofs.YtjjjagepnnbebaaGreatDoor
open Go.RowKit
attribute [local go_sem ↓] Go.wp_at_zero Go.wp_at_succ

theorem expr_all : ∀ f, ExprC f := by
  intro f
  induction f with
  | zero => exact pexpr_of 0 (fun f' e => by omega)
  | succ f ih =>
    refine pexpr_of (f + 1) (fun f' e => ?_)
    obtain rfl : f = f' := by omega
    exact ih
theorem argument_any (w : World) (B pb : Nat) (src : Bs) (a : Option Addr) (c : Nat) (l : List Wd) (am cm rv lv : Value) (s : ES) (ea : Option Addr) (ec : Nat) (h : ExS w B pb src a c l am cm rv lv s ea ec) (hk : s.1.length ≤ s.2) (h60 : s.2 ≤ 60) : Calls Tryz.prog 83 #[.pointer (some ⟨pb, 0, none⟩)] w (EPost w B pb src a c am cm rv lv (obE s ea ec) Rint (pExpr 20 s l)) := by
  have HE := hidX (expr_all 20 w B pb src a c l am cm rv lv s ea ec 0 0 h (by omega) (by omega) (by omega) h60)
  clear h hk h60
  go_enter Tryz.func83, Tryz.ntmps83
  cases hr : pExpr 20 s l with
  | error f =>
    rw [hr] at HE
    go_wp2_with (first | (go_at_call 131; refine HE.out.mono ?_; rintro e w2 ⟨hm2, rfl⟩; unfold fltE) | fail)
    exact ⟨rfl, hm2, rfl⟩
  | ok p =>
    obtain ⟨⟨i, s'⟩, l'⟩ := p
    rw [hr] at HE
    go_wp2_with (first | (go_at_call 131; refine HE.out.mono ?_; rintro e w2 ⟨hm2, he2, hs2⟩; replace he2 : e = .returned (.int .i64 i) := he2; subst he2) | fail)
    go_ret
    exact ⟨hm2, rfl, hs2⟩
def preE {σ α : Type} (M : List α) (r : Px (List α × σ)) : Px (List α × σ) := match r with
  | .error f => .error f
  | .ok (p, l) => .ok ((M ++ p.1, p.2), l)
theorem pListE_err {σ α : Type} {rd : σ → List Wd → Px (α × σ)} {n : Nat} {s : σ} {l : List Wd} {f : Flt} (h : nextW l = .error f) : pListE rd n s l = .error f := by
  cases n <;> simp [pListE, h]
theorem pListE_end {σ α : Type} {rd : σ → List Wd → Px (α × σ)} {n : Nat} {s : σ} {l r : List Wd} {x : Wd} (h : nextW l = .ok (x, r)) (hx : pkW x = 41) : pListE rd n s l = .ok (([], s), r) := by
  cases n <;> simp [pListE, h, hx]
theorem pListE_zero {σ α : Type} {rd : σ → List Wd → Px (α × σ)} {s : σ} {l r : List Wd} {x : Wd} (h : nextW l = .ok (x, r)) (hx : pkW x ≠ 41) : pListE rd 0 s l = if pkW x = 0 then .error (3, x.pos) else .error (4, x.pos) := by
  simp [pListE, h, hx]
theorem pListE_bad {σ α : Type} {rd : σ → List Wd → Px (α × σ)} {n : Nat} {s : σ} {l r : List Wd} {x : Wd} {f : Flt} (h : nextW l = .ok (x, r)) (hx : pkW x ≠ 41) (hr : rd s l = .error f) : pListE rd (n + 1) s l = .error f := by
  simp [pListE, h, hx, hr]
theorem pListE_step {σ α : Type} {rd : σ → List Wd → Px (α × σ)} {n : Nat} {s s1 : σ} {l r l1 : List Wd} {x : Wd} {v : α} {M : List α} (h : nextW l = .ok (x, r)) (hx : pkW x ≠ 41) (hr : rd s l = .ok ((v, s1), l1)) : preE M (pListE rd (n + 1) s l) = preE (M ++ [v]) (pListE rd n s1 l1) := by
  simp only [pListE, h, hx, hr, if_false]
  cases pListE rd n s1 l1 with
  | error f => rfl
  | ok p =>
    obtain ⟨⟨vs, s2⟩, l2⟩ := p
    simp [preE]
theorem pExpr_end {f : Nat} {s : ES} {l r : List Wd} {x : Wd} (h : nextW l = .ok (x, r)) (hx : pkW x = 0) : pExpr f s l = .error (3, x.pos) := by
  have hb : boundW (s.2 : Int) 60 l = .ok ((), l) := by
    unfold boundW
    rw [h]
    simp only
    rw [if_neg (fun e => e.2.2 hx)]
  exact pExpr_else hb h (by omega) (by omega) (by omega)
theorem own_mkx {w w' : World} {base pb : Nat} {e : TypeId} {m : Nat} {v : Value} {n : Nat} {xs : List Value} {ob : Option Nat} (h : w.ownsRow base e m v n xs) (hm : MkX pb ob w w') (hp : pb < base) (ho : ∀ g, ob = some g → ∃ c, w.heap[g]? = some (.cells c 97 (0, 0))) (hne : e ≠ 97) : w'.ownsRow base e m v n xs :=
  owns_of_block h fun k hk => hm.block k (h.lt k hk).2 (fun e => by have := (h.lt k hk).1; omega) (fun eo => by
    obtain ⟨c1, e1⟩ := own_type h hk
    obtain ⟨c2, e2⟩ := ho k eo
    rw [e1] at e2
    injection e2 with e2
    injection e2 with _ e2 _
    exact hne e2)
theorem ExS.row {w : World} {B pb : Nat} {src : Bs} {a : Option Addr} {c : Nat} {l : List Wd} {am cm rv lv : Value} {s : ES} {ea : Option Addr} {ec : Nat} (h : ExS w B pb src a c l am cm rv lv s ea ec) : ∀ g, obE s ea ec = some g → ∃ c, w.heap[g]? = some (.cells c 97 (0, 0)) := fun _ hg => own_type h.ow hg
def inC (vs : List Int) : List Value := vs.map fun i => Value.int .i64 i
theorem inC_one (i : Int) : ∀ v ∈ [Value.int .i64 i], v.oneCell' = true := by
  intro v hv
  simp at hv
  subst hv
  rfl
theorem infoIF1 : (Tryz.prog.info? 3).map (fun i => (i.zero, i.size, i.bytes)) = some (some (.int .i64 0), 1, 8) := by kernel_rfl
def Ris (B : Nat) (vs : List Int) (e : Ending) (w' : World) : Prop := ∃ la lc, e = .returned (.slice la vs.length lc) ∧ w'.ownsRow B 3 1 (.slice la vs.length lc) vs.length (inC vs)
set_option maxRecDepth 100000 in
set_option maxHeartbeats 3200000 in
theorem readArgs_any (w : World) (B pb : Nat) (src : Bs) (a : Option Addr) (c : Nat) (l : List Wd) (am cm rv lv : Value) (s : ES) (ea : Option Addr) (ec : Nat) (h : ExS w B pb src a c l am cm rv lv s ea ec) (hk : s.1.length ≤ s.2) (h60 : s.2 ≤ 60) : Calls Tryz.prog 82 #[.pointer (some ⟨pb, 0, none⟩), .func (.func 83) #[.pointer (some ⟨pb, 0, none⟩)] #[]] w (EPost w B pb src a c am cm rv lv (obE s ea ec) (Ris w.heap.size) (pListE (pExpr 20) 6 s l)) := by
  have HP := hidX h
  have hpb := h.ps.lt
  have hpB := h.lt
  clear h
  go_enter Tryz.func82, Tryz.ntmps82
  go_wp2_with fail
  go_loopw [5] (fun v wr => ∃ (la : Option Addr) (lc n : Nat) (M : List Int) (s' : ES) (l' : List Wd) (ea' : Option Addr) (ec' : Nat), M.length + n = 6 ∧ v = .slice la M.length lc ∧ wr.ownsRow w.heap.size 3 1 (.slice la M.length lc) M.length (inC M) ∧ ExS wr B pb src a c l' am cm rv lv s' ea' ec' ∧ MkX pb (obE s ea ec) w wr ∧ RowX (obE s ea ec) (obE s' ea' ec') w.heap.size ∧ pListE (pExpr 20) 6 s l = preE M (pListE (pExpr 20) n s' l') ∧ s'.1.length ≤ s'.2 ∧ s'.2 ≤ 60) (fun v _ => 6 - sliceLen v)
  case atStart => exact ⟨none, 0, 6, [], s, l, ea, ec, rfl, rfl, World.ownsRow_nil _ _ _ _, HP.out, MkX.refl _ _ _, .inl rfl, by unfold preE; cases pListE (pExpr 20) 6 s l <;> rfl, hk, h60⟩
  case round =>
    obtain ⟨la, lc, n, M, s', l', ea', ec', hMn, rfl, hown, hps, hmk, hrx, hpl, hk', h60'⟩ := hrel
    have OW := hidX hown
    have PS := hidX hps
    have MK := hidX hmk
    have RX := hidX hrx
    have PL := hidX hpl
    have HAH := hidX (ahead_any wr pb src a c l' _ 41 hps.ps)
    have swr := hmk.rest.size
    clear hown hps hmk hrx hpl
    cases hr : nextW l' with
    | error f =>
      have HT : Hid (pListE (pExpr 20) 6 s l = .error f) := show _ = _ from by rw [PL.out, pListE_err hr]; rfl
      rw [hr] at HAH
      go_wp2_with (first | (go_at_call 46; refine HAH.out.mono ?_; rintro e w2 ⟨hb2, rfl⟩; unfold fltE) | fail)
      exact ⟨rfl, EPost.err HT.out (MK.out.below hb2)⟩
    | ok p =>
      obtain ⟨x, r⟩ := p
      rw [hr] at HAH
      by_cases hx : pkW x = 41
      · have HT : Hid (pListE (pExpr 20) 6 s l = .ok ((M, s'), r)) := show _ = _ from by rw [PL.out, pListE_end hr hx]; simp [preE]
        replace HAH : Hid (Calls Tryz.prog 46 #[.pointer (some ⟨pb, 0, none⟩), .int .i32 41] wr fun e w' => Below wr.heap.size wr w' ∧ e = .returned (.bool true)) := by
          rw [← decide_eq_true hx]
          exact HAH
        have HTK := hidX (fun u (hu : Below wr.heap.size wr u) => take_any u pb src a c l' _ 41 (PS.out.below hu).ps)
        rw [show takeW 41 l' = .ok (x, r) by unfold takeW; rw [hr]; simp [hx]] at HTK
        clear hx
        go_wp2_with (first | (go_at_call 46; refine HAH.out.mono ?_; rintro e w2 ⟨hb2, rfl⟩) | (go_at_call 85; refine (HTK.out _ hb2).mono ?_; rintro e w4 ⟨hm4, hw4, hp4⟩; replace hw4 : e = .returned (pwA x) := hw4; subst hw4) | fail)
        go_ret
        exact EPost.good HT.out ((MK.out.below hb2).trans (MkX.of hm4) RX.out) ⟨la, lc, rfl, own_mko (own_bel OW.out hb2) hm4 hpb⟩ ((PS.out.below hb2).mko hm4 hp4) RX.out
      · replace HAH : Hid (Calls Tryz.prog 46 #[.pointer (some ⟨pb, 0, none⟩), .int .i32 41] wr fun e w' => Below wr.heap.size wr w' ∧ e = .returned (.bool false)) := by
          rw [← decide_eq_false hx]
          exact HAH
        have HBN := hidX (fun u (hu : Below wr.heap.size wr u) => bound_any u pb src a c l' _ (M.length : Int) 6 (PS.out.below hu).ps)
        have HVA := hidX (fun u (hu : ExS u B pb src a c l' am cm rv lv s' ea' ec') => argument_any u B pb src a c l' am cm rv lv s' ea' ec' hu hk' h60')
        by_cases hn : n = 0 ∧ pkW x ≠ 0
        · have HT : Hid (pListE (pExpr 20) 6 s l = .error (4, x.pos)) := show _ = _ from by rw [PL.out, hn.1, pListE_zero hr hx, if_neg hn.2]; rfl
          rw [show boundW (M.length : Int) 6 l' = .error (4, x.pos) by unfold boundW; rw [hr]; simp only; rw [if_pos ⟨by omega, hx, hn.2⟩]] at HBN
          clear hx hn
          go_wp2_with (first | (go_at_call 46; refine HAH.out.mono ?_; rintro e w2 ⟨hb2, rfl⟩) | (go_at_call 130; refine (HBN.out _ hb2).mono ?_; rintro e w3 ⟨hm3, rfl⟩; unfold fltE) | fail)
          exact ⟨rfl, EPost.err HT.out ((MK.out.below hb2).trans (MkX.of hm3) RX.out)⟩
        · rw [show boundW (M.length : Int) 6 l' = .ok ((), l') by
            unfold boundW
            rw [hr]
            simp only
            rw [if_neg]
            rintro ⟨h1, h2, h3⟩
            exact hn ⟨by omega, h3⟩] at HBN
          cases hv : pExpr 20 s' l' with
          | error f =>
            have HT : Hid (pListE (pExpr 20) 6 s l = .error f) := show _ = _ from by
              rw [PL.out]
              cases n with
              | zero =>
                have h0 : pkW x = 0 := Classical.byContradiction fun h => hn ⟨rfl, h⟩
                rw [pListE_zero hr hx, if_pos h0]
                rw [pExpr_end hr h0] at hv
                injection hv with hv
                rw [hv]
                rfl
              | succ n =>
                rw [pListE_bad hr hx hv]
                rfl
            rw [hv] at HVA
            clear hx hn hv
            go_wp2_with (first | (go_at_call 46; refine HAH.out.mono ?_; rintro e w2 ⟨hb2, rfl⟩) | (go_at_call 130; refine (HBN.out _ hb2).mono ?_; rintro e w3 ⟨hm3, he3, hp3⟩; replace he3 : e = .returned (.tuple #[]) := he3; subst he3) | (go_at_call 83; refine (HVA.out _ ((PS.out.below hb2).mko hm3 hp3)).mono ?_; rintro e w4 ⟨hm4, rfl⟩; unfold fltE) | fail)
            exact ⟨rfl, EPost.err HT.out (((MK.out.below hb2).trans (MkX.of hm3) RX.out).trans hm4 RX.out)⟩
          | ok p =>
            obtain ⟨⟨v, s2⟩, l1⟩ := p
            obtain ⟨hk2, h62⟩ := pExpr_inv 20 s' l' l1 0 v s2 (by omega) h60' hv
            rw [hv] at HVA
            obtain ⟨n, rfl⟩ : ∃ n', n = n' + 1 := by
              cases n with
              | zero =>
                have h0 : pkW x = 0 := Classical.byContradiction fun h => hn ⟨rfl, h⟩
                rw [pExpr_end hr h0] at hv
                cases hv
              | succ n => exact ⟨n, rfl⟩
            have PL2 := hidX (PL.out.trans (pListE_step (M := M) hr hx hv))
            clear hx hn hv
            go_wp2_with (first | (go_at_call 46; refine HAH.out.mono ?_; rintro e w2 ⟨hb2, rfl⟩) | (go_at_call 130; refine (HBN.out _ hb2).mono ?_; rintro e w3 ⟨hm3, he3, hp3⟩; replace he3 : e = .returned (.tuple #[]) := he3; subst he3) | (go_at_call 83; refine (HVA.out _ ((PS.out.below hb2).mko hm3 hp3)).mono ?_; rintro e w4 ⟨hm4, hw4, ea4, ec4, hs4, hr4⟩; replace hw4 : e = .returned (.int .i64 v) := hw4; subst hw4; have s2' := hb2.size; have s3' := hm3.rest.size; have M4 := hidX (((MK.out.below hb2).trans (MkX.of hm3) RX.out).trans hm4 RX.out); have OW4 := hidX (own_mkx (own_mko (own_bel OW.out hb2) hm3 hpb) hm4 hpb ((PS.out.below hb2).mko hm3 hp3).row (by decide)); have hsz4 := M4.out.rest.size; have HA4 := hidX (fun o' => (Below.refl _ _).alloc (Nat.le_refl _) o' : ∀ o', Below w4.heap.size w4 (w4.alloc o'))) | (at_builtin; refine wpList_append_any (by rfl) (.tmp 13) (.tmp 16) 71 (by rfl) w.heap.size 3 _ 1 8 Tryz.underlying71 infoIF1 (by rfl) (by omega) _ M.length _ (by rfl) (own_bel OW4.out (HA4.out _)) (some ⟨_, 0, none⟩) 1 1 (by rfl) [.int .i64 v] (by rfl) (fun e => by cases e) (news_new _ _ _ _ (by simp)) (inC_one v) (by unfold maxLen; omega) (by omega) (by simp; omega) ?_; intro a5 c5 w5 ho5 hg5 hl5) | fail)
            have hrow : ∀ k, (Value.slice la M.length lc).ownBlock = some k → w.heap.size ≤ k := fun k hk => (OW4.out.lt k hk).1
            have TY := hidX (fun o' g hg => own_type (own_bel OW4.out (HA4.out o')) (k := g) hg)
            have HSA := hidX (fun o' => hs4.below (HA4.out o'))
            have S5 := hidX (show ExS w5 B pb src a c l1 am cm rv lv s2 ea4 ec4 from ⟨(HSA.out _).ps.keep ((Below.refl _ _).grown hg5.out (by simp; omega) (fun k hk => by have := hrow k hk; omega)), own_grown (HSA.out _).ow hg5.out (TY.out _) (by decide), hpB, Nat.le_trans (HSA.out _).le hg5.out.size⟩)
            have M5 := hidX (show MkX pb (obE s ea ec) w w5 from ⟨(M4.out.rest.trans ((HA4.out _).mono (Nat.zero_le _))).grown hg5.out (Nat.zero_le _) (fun _ _ => Nat.zero_le _), fun g hg hp ho => (hg5.out.block g (by simp; omega) (fun e => by have := hrow g e.symm; omega)).trans (((HA4.out _).block g (by omega)).trans (M4.out.block g hg hp ho))⟩)
            have RX5 := hidX (RX.out.trans hr4 (by omega))
            go_roundw
            case rel => exact ⟨a5, c5, n, M ++ [v], s2, l1, ea4, ec4, by simp; omega, by simp, by simpa [inC] using ho5.out, S5.out, M5.out, RX5.out, PL2.out, by omega, h62⟩
            case measure => (simp [sliceLen]; omega)
end Go.Proofs.YtjjjagepnnbebaaGreatDoor

namespace Go.Proofs.YtjjjagepnnbebaaGreatDoor
open Go.RowKit
attribute [local go_sem ↓] Go.wp_at_zero Go.wp_at_succ

def acL (x : Ac) (v : Value) : List Value := [.int .i64 x.kind, .int .i64 x.k, .string x.cls, v]
theorem acL_one (x : Ac) (a : Option Addr) (n c : Nat) : ∀ v ∈ acL x (.slice a n c), v.oneCell' = true := by
  intro v hv
  simp [acL] at hv
  rcases hv with rfl | rfl | rfl | rfl <;> rfl
theorem infoAcP : (Tryz.prog.info? 73).map (·.size) = some 4 := by kernel_rfl
/-- An action that was read: its arguments are owned. -/
def Rac (B : Nat) (x : Ac) (e : Ending) (w' : World) : Prop := ∃ la lc, e = .returned (.agg (acL x (.slice la x.args.length lc)).toArray) ∧ w'.ownsRow B 3 1 (.slice la x.args.length lc) x.args.length (inC x.args)
set_option maxHeartbeats 1600000 in
theorem pref_any (w : World) (pb : Nat) (src : Bs) (a : Option Addr) (c : Nat) (l : List Wd) (R : List Value) (h : PSt w pb src a c l R) : Calls Tryz.prog 84 #[.pointer (some ⟨pb, 0, none⟩)] w (PPost w pb src a c R Rint (pRef l)) := by
  have hfd := wfield3
  have HTK := hidX (take_any w pb src a c l R 48 h)
  clear h
  go_enter Tryz.func84, Tryz.ntmps84
  cases hr : takeW 48 l with
  | error f =>
    have HT : Hid (pRef l = .error f) := show _ = _ from by unfold pRef; rw [hr]; rfl
    rw [hr] at HTK
    go_wp2_with (first | (go_at_call 85; refine HTK.out.mono ?_; rintro e w2 ⟨hm2, rfl⟩; unfold fltE) | fail)
    exact ⟨rfl, PPost.err HT.out hm2⟩
  | ok p =>
    obtain ⟨x, l1⟩ := p
    rw [hr] at HTK
    obtain ⟨N, hN⟩ : ∃ N, N = x.num := ⟨_, rfl⟩
    have HT : Hid (pRef l = .ok (refOf N, l1)) := show _ = _ from by unfold pRef; rw [hr, hN]; rfl
    have HN := hidX hN
    clear hN hr
    by_cases h1 : N < -1000000
    · have HR : Hid (refOf N = 0) := show _ = _ from by unfold refOf; rw [if_pos (.inl h1)]
      go_wp2_with (first | (go_at_call 85; refine HTK.out.mono ?_; rintro e w2 ⟨hm2, hw2, hp2⟩; replace hw2 : e = .returned (pwA x) := hw2; subst hw2; unfold pwA; rw [← HN.out]) | fail)
      go_ret
      exact PPost.good HT.out hm2 (by rw [HR.out]; rfl) hp2
    · by_cases h2 : 1000000 < N
      · have HR : Hid (refOf N = 0) := show _ = _ from by unfold refOf; rw [if_pos (.inr h2)]
        go_wp2_with (first | (go_at_call 85; refine HTK.out.mono ?_; rintro e w2 ⟨hm2, hw2, hp2⟩; replace hw2 : e = .returned (pwA x) := hw2; subst hw2; unfold pwA; rw [← HN.out]) | fail)
        go_ret
        exact PPost.good HT.out hm2 (by rw [HR.out]; rfl) hp2
      · have HR : Hid (refOf N = N) := show _ = _ from by unfold refOf; rw [if_neg (by omega)]
        go_wp2_with (first | (go_at_call 85; refine HTK.out.mono ?_; rintro e w2 ⟨hm2, hw2, hp2⟩; replace hw2 : e = .returned (pwA x) := hw2; subst hw2; unfold pwA; rw [← HN.out]) | fail)
        go_ret
        exact PPost.good HT.out hm2 (by rw [HR.out]; rfl) hp2
set_option maxRecDepth 100000 in
set_option maxHeartbeats 1600000 in
theorem phalt_any (w : World) (B pb : Nat) (src : Bs) (a : Option Addr) (c : Nat) (l : List Wd) (am cm rv lv : Value) (s : ES) (ea : Option Addr) (ec : Nat) (h : ExS w B pb src a c l am cm rv lv s ea ec) (hk : s.1.length ≤ s.2) (h60 : s.2 ≤ 60) : Calls Tryz.prog 39 #[.pointer (some ⟨pb, 0, none⟩)] w (EPost w B pb src a c am cm rv lv (obE s ea ec) (Rac w.heap.size) (aHalt s l)) := by
  have hmf : ∀ (fn : Fn) (first cap : Array Value) (w : World), (Instr.makeFunc fn first cap).run Tryz.prog w = .ok (.func fn first cap) w := fun _ _ _ _ => rfl
  have HP := hidX h
  have hpb := h.ps.lt
  have OB0 := hidX (fun k (hk : obE s ea ec = some k) => (HP.out.ow.lt k hk).2)
  have HK := hidX hk
  have H60 := hidX h60
  clear h hk h60
  go_enter Tryz.func39, Tryz.ntmps39
  go_upto_region 1 with fail
  refine lift_alloc ?_
  intro w1 hW1 hq1
  have P1 := hidX (HP.out.below hW1)
  have M1 := hidX (MkX.of (MkO.of_below hW1) : MkX pb (obE s ea ec) w w1)
  have hrb : w.heap.size < w1.heap.size := lt_of_block' hq1
  have HQ1 := hidX hq1
  clear hW1 hq1
  have HTK := hidX (take_any w1 pb src a c l _ 41 P1.out.ps)
  cases hr : takeW 41 l with
  | error f =>
    have HT : Hid (aHalt s l = .error f) := show _ = _ from by unfold aHalt; rw [hr]; rfl
    rw [hr] at HTK
    go_wp2_with (first | (go_at_call 85; refine HTK.out.mono ?_; rintro e w2 ⟨hm2, rfl⟩; unfold fltE) | fail)
    exact ⟨rfl, EPost.err HT.out (M1.out.trans (MkX.of hm2) (.inl rfl))⟩
  | ok p =>
    obtain ⟨x, l1⟩ := p
    have HT : Hid (aHalt s l = .ok ((⟨4, 0, mkS [], []⟩, s), l1)) := show _ = _ from by unfold aHalt; rw [hr]; rfl
    rw [hr] at HTK
    go_wp2_with (first | (go_at_call 85; refine HTK.out.mono ?_; rintro e w2 ⟨hm2, hw2, hp2⟩; replace hw2 : e = .returned (pwA x) := hw2; subst hw2; unfold pwA; have hr2 := (hm2.block w.heap.size hrb (fun e => by injection e; omega)).trans HQ1.out) | (refine wpList_store_blk (by rfl) 73 (.tmp 2) (.tmp 5) (by rfl) w.heap.size (acL ⟨4, 0, mkS [], []⟩ (.slice none 0 0)) (by rfl) (by rfl) _ 73 hr2 (by rfl) infoAcP (acL_one _ _ _ _) ?_; intro w5 hb5 ht5) | fail)
    have hld := run_loadVar_mid (P := Tryz.prog) w5 w.heap.size 0 73 (acL ⟨4, 0, mkS [], []⟩ (.slice none 0 0)) _ (range_blk hb5.out) Tryz.underlying73 rfl infoAcP
    (try go_frame)
    exact bodyPost_ret (v := .agg (acL ⟨4, 0, mkS [], []⟩ (.slice none 0 0)).toArray) (by simp [results, Tryz.results39, asAddr, hld]) rfl (EPost.good HT.out ((M1.out.trans (MkX.of hm2) (.inl rfl)).turn ht5.out (Nat.le_refl _)) ⟨none, 0, rfl, World.ownsRow_nil _ _ _ _⟩ ((P1.out.mko hm2 hp2).turned ht5.out (by omega) hr2 (fun _ k hk => by have := OB0.out k hk; omega)) (.inl rfl))
set_option maxRecDepth 100000 in
set_option maxHeartbeats 1600000 in
theorem pdrop_any (w : World) (B pb : Nat) (src : Bs) (a : Option Addr) (c : Nat) (l : List Wd) (am cm rv lv : Value) (s : ES) (ea : Option Addr) (ec : Nat) (h : ExS w B pb src a c l am cm rv lv s ea ec) (hk : s.1.length ≤ s.2) (h60 : s.2 ≤ 60) : Calls Tryz.prog 37 #[.pointer (some ⟨pb, 0, none⟩)] w (EPost w B pb src a c am cm rv lv (obE s ea ec) (Rac w.heap.size) (aDrop s l)) := by
  have hmf : ∀ (fn : Fn) (first cap : Array Value) (w : World), (Instr.makeFunc fn first cap).run Tryz.prog w = .ok (.func fn first cap) w := fun _ _ _ _ => rfl
  have HP := hidX h
  have hpb := h.ps.lt
  have OB0 := hidX (fun k (hk : obE s ea ec = some k) => (HP.out.ow.lt k hk).2)
  have HK := hidX hk
  have H60 := hidX h60
  clear h hk h60
  go_enter Tryz.func37, Tryz.ntmps37
  go_upto_region 1 with fail
  refine lift_alloc ?_
  intro w1 hW1 hq1
  have P1 := hidX (HP.out.below hW1)
  have M1 := hidX (MkX.of (MkO.of_below hW1) : MkX pb (obE s ea ec) w w1)
  have hrb : w.heap.size < w1.heap.size := lt_of_block' hq1
  have HQ1 := hidX hq1
  clear hW1 hq1
  have HRF := hidX (pref_any w1 pb src a c l _ P1.out.ps)
  cases hr : pRef l with
  | error f =>
    have HT : Hid (aDrop s l = .error f) := show _ = _ from by unfold aDrop; rw [hr]; rfl
    rw [hr] at HRF
    go_wp2_with (first | (go_at_call 84; refine HRF.out.mono ?_; rintro e w2 ⟨hm2, rfl⟩; unfold fltE) | fail)
    exact ⟨rfl, EPost.err HT.out (M1.out.trans (MkX.of hm2) (.inl rfl))⟩
  | ok p =>
    obtain ⟨K, l1⟩ := p
    rw [hr] at HRF
    go_upto_region 2 with (first | (go_at_call 84; refine HRF.out.mono ?_; rintro e w2 ⟨hm2, hw2, hp2⟩; replace hw2 : e = .returned (.int .i64 K) := hw2; subst hw2) | fail)
    refine lift_alloc ?_
    intro w3 hW3 hq3
    replace hq3 : w3.heap[w2.heap.size]? = some (.cells (acL ⟨2, K, mkS [], []⟩ (.slice none 0 0)).toArray 73 (0, 0)) := hq3
    have s2 := hm2.rest.size
    have s3 : w2.heap.size < w3.heap.size := lt_of_block' hq3
    have P3 := hidX ((P1.out.mko hm2 hp2).below hW3)
    have M3 := hidX ((M1.out.trans (MkX.of hm2) (.inl rfl)).below hW3)
    have HRB := hidX ((hW3.block w.heap.size (by omega)).trans ((hm2.block w.heap.size hrb (fun e => by injection e; omega)).trans HQ1.out))
    have HTK := hidX (take_any w3 pb src a c l1 _ 41 P3.out.ps)
    clear hW3 hm2 hp2
    cases hs : takeW 41 l1 with
    | error f =>
      have HT : Hid (aDrop s l = .error f) := show _ = _ from by unfold aDrop; rw [hr, andP_okX, hs]; rfl
      rw [hs] at HTK
      go_wp2_with (first | (go_at_call 85; refine HTK.out.mono ?_; rintro e w4 ⟨hm4, rfl⟩; unfold fltE) | fail)
      exact ⟨rfl, EPost.err HT.out (M3.out.trans (MkX.of hm4) (.inl rfl))⟩
    | ok q =>
      obtain ⟨y, l2⟩ := q
      have HT : Hid (aDrop s l = .ok ((⟨2, K, mkS [], []⟩, s), l2)) := show _ = _ from by unfold aDrop; rw [hr, andP_okX, hs]; rfl
      rw [hs] at HTK
      go_wp2_with (first | (go_at_call 85; refine HTK.out.mono ?_; rintro e w4 ⟨hm4, hw4, hp4⟩; replace hw4 : e = .returned (pwA y) := hw4; subst hw4; have s4 := hm4.rest.size; have hq4 := (hm4.block w2.heap.size s3 (fun e => by injection e; omega)).trans hq3; have hr4 := (hm4.block w.heap.size (by omega) (fun e => by injection e; omega)).trans HRB.out) | (refine wpList_load_blk (by rfl) 73 (.tmp 3) (by rfl) w2.heap.size (acL ⟨2, K, mkS [], []⟩ (.slice none 0 0)) (by rfl) 73 (0, 0) hq4 _ Tryz.underlying73 rfl infoAcP ?_) | (refine wpList_store_blk (by rfl) 73 (.tmp 2) (.tmp 9) (by rfl) w.heap.size (acL ⟨2, K, mkS [], []⟩ (.slice none 0 0)) (by rfl) (by rfl) _ 73 hr4 (by rfl) infoAcP (acL_one _ _ _ _) ?_; intro w5 hb5 ht5) | fail)
      have hld := run_loadVar_mid (P := Tryz.prog) w5 w.heap.size 0 73 (acL ⟨2, K, mkS [], []⟩ (.slice none 0 0)) _ (range_blk hb5.out) Tryz.underlying73 rfl infoAcP
      (try go_frame)
      exact bodyPost_ret (v := .agg (acL ⟨2, K, mkS [], []⟩ (.slice none 0 0)).toArray) (by simp [results, Tryz.results37, asAddr, hld]) rfl (EPost.good HT.out ((M3.out.trans (MkX.of hm4) (.inl rfl)).turn ht5.out (Nat.le_refl _)) ⟨none, 0, rfl, World.ownsRow_nil _ _ _ _⟩ ((P3.out.mko hm4 hp4).turned ht5.out (by omega) hr4 (fun _ k hk => by have := OB0.out k hk; omega)) (.inl rfl))
set_option maxRecDepth 100000 in
set_option maxHeartbeats 1600000 in
theorem pmod_any (w : World) (B pb : Nat) (src : Bs) (a : Option Addr) (c : Nat) (l : List Wd) (am cm rv lv : Value) (s : ES) (ea : Option Addr) (ec : Nat) (h : ExS w B pb src a c l am cm rv lv s ea ec) (hk : s.1.length ≤ s.2) (h60 : s.2 ≤ 60) : Calls Tryz.prog 38 #[.pointer (some ⟨pb, 0, none⟩)] w (EPost w B pb src a c am cm rv lv (obE s ea ec) (Rac w.heap.size) (aMod s l)) := by
  have hmf : ∀ (fn : Fn) (first cap : Array Value) (w : World), (Instr.makeFunc fn first cap).run Tryz.prog w = .ok (.func fn first cap) w := fun _ _ _ _ => rfl
  have HP := hidX h
  have hpb := h.ps.lt
  have OB0 := hidX (fun k (hk : obE s ea ec = some k) => (HP.out.ow.lt k hk).2)
  have HK := hidX hk
  have H60 := hidX h60
  clear h hk h60
  go_enter Tryz.func38, Tryz.ntmps38
  go_upto_region 1 with fail
  refine lift_alloc ?_
  intro w1 hW1 hq1
  have P1 := hidX (HP.out.below hW1)
  have M1 := hidX (MkX.of (MkO.of_below hW1) : MkX pb (obE s ea ec) w w1)
  have hrb : w.heap.size < w1.heap.size := lt_of_block' hq1
  have HQ1 := hidX hq1
  clear hW1 hq1
  have HRF := hidX (pref_any w1 pb src a c l _ P1.out.ps)
  cases hr : pRef l with
  | error f =>
    have HT : Hid (aMod s l = .error f) := show _ = _ from by unfold aMod; rw [hr]; rfl
    rw [hr] at HRF
    go_wp2_with (first | (go_at_call 84; refine HRF.out.mono ?_; rintro e w2 ⟨hm2, rfl⟩; unfold fltE) | fail)
    exact ⟨rfl, EPost.err HT.out (M1.out.trans (MkX.of hm2) (.inl rfl))⟩
  | ok p =>
    obtain ⟨K, l1⟩ := p
    rw [hr] at HRF
    have HAR := hidX (fun u (hu : ExS u B pb src a c l1 am cm rv lv s ea ec) => readArgs_any u B pb src a c l1 am cm rv lv s ea ec hu HK.out H60.out)
    cases hs : pListE (pExpr 20) 6 s l1 with
    | error f =>
      have HT : Hid (aMod s l = .error f) := show _ = _ from by unfold aMod; rw [hr, andP_okX, hs]; rfl
      rw [hs] at HAR
      go_wp2_with (first | (go_at_call 84; refine HRF.out.mono ?_; rintro e w2 ⟨hm2, hw2, hp2⟩; replace hw2 : e = .returned (.int .i64 K) := hw2; subst hw2) | (go_at_call 82; refine (HAR.out _ (P1.out.mko hm2 hp2)).mono ?_; rintro e w4 ⟨hm4, rfl⟩; unfold fltE) | fail)
      exact ⟨rfl, EPost.err HT.out ((M1.out.trans (MkX.of hm2) (.inl rfl)).trans hm4 (.inl rfl))⟩
    | ok q =>
      obtain ⟨⟨vs, s'⟩, l2⟩ := q
      have HT : Hid (aMod s l = .ok ((⟨3, K, mkS [], vs⟩, s'), l2)) := show _ = _ from by unfold aMod; rw [hr, andP_okX, hs]; rfl
      rw [hs] at HAR
      go_wp2_with (first | (go_at_call 84; refine HRF.out.mono ?_; rintro e w2 ⟨hm2, hw2, hp2⟩; replace hw2 : e = .returned (.int .i64 K) := hw2; subst hw2) | (go_at_call 82; refine (HAR.out _ (P1.out.mko hm2 hp2)).mono ?_; rintro e w4 ⟨hm4, ⟨la, lc, rfl, ho4⟩, ea4, ec4, hs4, hr4⟩; have s2 := hm2.rest.size; have s4 := hm4.rest.size; have hq4 := (hm4.block w.heap.size (by omega) (by omega) (fun e => by have := OB0.out _ e; omega)).trans ((hm2.block w.heap.size hrb (fun e => by injection e; omega)).trans HQ1.out)) | (refine wpList_store_blk (by rfl) 73 (.tmp 2) (.tmp 9) (by rfl) w.heap.size (acL ⟨3, K, mkS [], vs⟩ (.slice la vs.length lc)) (by rfl) (by rfl) _ 73 hq4 (by rfl) infoAcP (acL_one _ _ _ _) ?_; intro w5 hb5 ht5) | fail)
      have OB4 : ∀ k, obE s' ea4 ec4 = some k → k ≠ w.heap.size := fun k hk => by
        rcases hr4 with e | e
        · have := OB0.out k (e ▸ hk)
          omega
        · have := e k hk
          omega
      have hld := run_loadVar_mid (P := Tryz.prog) w5 w.heap.size 0 73 (acL ⟨3, K, mkS [], vs⟩ (.slice la vs.length lc)) _ (range_blk hb5.out) Tryz.underlying73 rfl infoAcP
      (try go_frame)
      exact bodyPost_ret (v := .agg (acL ⟨3, K, mkS [], vs⟩ (.slice la vs.length lc)).toArray) (by simp [results, Tryz.results38, asAddr, hld]) rfl (EPost.good HT.out (((M1.out.trans (MkX.of hm2) (.inl rfl)).trans hm4 (.inl rfl)).turn ht5.out (Nat.le_refl _)) ⟨la, lc, rfl, owns_base (own_turn ho4 ht5.out hq4 (by decide)) (by omega)⟩ (hs4.turned ht5.out (by omega) hq4 (fun _ => OB4)) (hr4.imp id fun h g hg => by have := h g hg; omega))
set_option maxRecDepth 100000 in
set_option maxHeartbeats 1600000 in
theorem padd_any (w : World) (B pb : Nat) (src : Bs) (a : Option Addr) (c : Nat) (l : List Wd) (am cm rv lv : Value) (s : ES) (ea : Option Addr) (ec : Nat) (h : ExS w B pb src a c l am cm rv lv s ea ec) (hk : s.1.length ≤ s.2) (h60 : s.2 ≤ 60) : Calls Tryz.prog 36 #[.pointer (some ⟨pb, 0, none⟩)] w (EPost w B pb src a c am cm rv lv (obE s ea ec) (Rac w.heap.size) (aAdd s l)) := by
  have hmf : ∀ (fn : Fn) (first cap : Array Value) (w : World), (Instr.makeFunc fn first cap).run Tryz.prog w = .ok (.func fn first cap) w := fun _ _ _ _ => rfl
  have HP := hidX h
  have hpb := h.ps.lt
  have OB0 := hidX (fun k (hk : obE s ea ec = some k) => (HP.out.ow.lt k hk).2)
  have HK := hidX hk
  have H60 := hidX h60
  clear h hk h60
  go_enter Tryz.func36, Tryz.ntmps36
  go_upto_region 1 with fail
  refine lift_alloc ?_
  intro w1 hW1 hq1
  have P1 := hidX (HP.out.below hW1)
  have M1 := hidX (MkX.of (MkO.of_below hW1) : MkX pb (obE s ea ec) w w1)
  have hrb : w.heap.size < w1.heap.size := lt_of_block' hq1
  have HQ1 := hidX hq1
  clear hW1 hq1
  have HRF := hidX (class_any w1 pb src a c l _ P1.out.ps)
  cases hr : pClass l with
  | error f =>
    have HT : Hid (aAdd s l = .error f) := show _ = _ from by unfold aAdd; rw [hr]; rfl
    rw [hr] at HRF
    go_wp2_with (first | (go_at_call 81; refine HRF.out.mono ?_; rintro e w2 ⟨hm2, rfl⟩; unfold fltE) | fail)
    exact ⟨rfl, EPost.err HT.out (M1.out.trans (MkX.of hm2) (.inl rfl))⟩
  | ok p =>
    obtain ⟨t, l1⟩ := p
    rw [hr] at HRF
    have HAR := hidX (fun u (hu : ExS u B pb src a c l1 am cm rv lv s ea ec) => readArgs_any u B pb src a c l1 am cm rv lv s ea ec hu HK.out H60.out)
    cases hs : pListE (pExpr 20) 6 s l1 with
    | error f =>
      have HT : Hid (aAdd s l = .error f) := show _ = _ from by unfold aAdd; rw [hr, andP_okX, hs]; rfl
      rw [hs] at HAR
      go_wp2_with (first | (go_at_call 81; refine HRF.out.mono ?_; rintro e w2 ⟨hm2, hw2, hp2⟩; replace hw2 : e = .returned (.string (mkS t)) := hw2; subst hw2) | (go_at_call 82; refine (HAR.out _ (P1.out.mko hm2 hp2)).mono ?_; rintro e w4 ⟨hm4, rfl⟩; unfold fltE) | fail)
      exact ⟨rfl, EPost.err HT.out ((M1.out.trans (MkX.of hm2) (.inl rfl)).trans hm4 (.inl rfl))⟩
    | ok q =>
      obtain ⟨⟨vs, s'⟩, l2⟩ := q
      have HT : Hid (aAdd s l = .ok ((⟨1, 0, mkS t, vs⟩, s'), l2)) := show _ = _ from by unfold aAdd; rw [hr, andP_okX, hs]; rfl
      rw [hs] at HAR
      go_wp2_with (first | (go_at_call 81; refine HRF.out.mono ?_; rintro e w2 ⟨hm2, hw2, hp2⟩; replace hw2 : e = .returned (.string (mkS t)) := hw2; subst hw2) | (go_at_call 82; refine (HAR.out _ (P1.out.mko hm2 hp2)).mono ?_; rintro e w4 ⟨hm4, ⟨la, lc, rfl, ho4⟩, ea4, ec4, hs4, hr4⟩; have s2 := hm2.rest.size; have s4 := hm4.rest.size; have hq4 := (hm4.block w.heap.size (by omega) (by omega) (fun e => by have := OB0.out _ e; omega)).trans ((hm2.block w.heap.size hrb (fun e => by injection e; omega)).trans HQ1.out)) | (refine wpList_store_blk (by rfl) 73 (.tmp 2) (.tmp 9) (by rfl) w.heap.size (acL ⟨1, 0, mkS t, vs⟩ (.slice la vs.length lc)) (by rfl) (by rfl) _ 73 hq4 (by rfl) infoAcP (acL_one _ _ _ _) ?_; intro w5 hb5 ht5) | fail)
      have OB4 : ∀ k, obE s' ea4 ec4 = some k → k ≠ w.heap.size := fun k hk => by
        rcases hr4 with e | e
        · have := OB0.out k (e ▸ hk)
          omega
        · have := e k hk
          omega
      have hld := run_loadVar_mid (P := Tryz.prog) w5 w.heap.size 0 73 (acL ⟨1, 0, mkS t, vs⟩ (.slice la vs.length lc)) _ (range_blk hb5.out) Tryz.underlying73 rfl infoAcP
      (try go_frame)
      exact bodyPost_ret (v := .agg (acL ⟨1, 0, mkS t, vs⟩ (.slice la vs.length lc)).toArray) (by simp [results, Tryz.results36, asAddr, hld]) rfl (EPost.good HT.out (((M1.out.trans (MkX.of hm2) (.inl rfl)).trans hm4 (.inl rfl)).turn ht5.out (Nat.le_refl _)) ⟨la, lc, rfl, owns_base (own_turn ho4 ht5.out hq4 (by decide)) (by omega)⟩ (hs4.turned ht5.out (by omega) hq4 (fun _ => OB4)) (hr4.imp id fun h g hg => by have := h g hg; omega))
end Go.Proofs.YtjjjagepnnbebaaGreatDoor

/-
  OUR OWN TEXT. Sx25, LawPs, one behind the other.
-/
import Derived.Test.YtdhpoagjmiligaaGreatDoorPx3m
import Derived.Test.YtdhpoagjmiligaaGreatDoorSx24m
import Derived.Test.YtdhpoagjmiligaaGreatDoorKbg
namespace Go.Proofs.YtdhpoagjmiligaaGreatDoor
open Go.RowKit
attribute [local go_sem ↓] Go.wp_at_zero Go.wp_at_succ

def unitR {α : Type} (r : Px α) : Except Flt Unit := match r with
  | .error f => .error f
  | .ok _ => .ok ()
theorem FnMap.below {w w' : World} {pb mb : Nat} {f : Bs → Option Nat} (h : FnMap w pb mb f) (hb : Below w.heap.size w w') : FnMap w' pb mb f := h.block (hb.block mb h.lt)
/-- A script that was read to its end. -/
def ScrQ (pb : Nat) (src : Bs) (a : Option Addr) (c : Nat) (am cm rv ev bv : Value) (vs : List Cd) (u w' : World) : Prop := ∃ la lc M l, M.map Prod.fst = vs ∧ CO w' u.heap.size la lc M ∧ PSt w' pb src a c l (RL am cm rv (.slice la M.length lc) ev bv)
set_option maxRecDepth 100000 in
set_option maxHeartbeats 3200000 in
theorem iParseScript_any (src : Bs) (a : Option Addr) (c : Nat) (w : World) (hv : BysAt w a src) (hcap : src.length ≤ c) (hfar : ∀ b o, a = some ⟨b, o, none⟩ → b < w.heap.size) (hE : EnvAt w w.heap.size) (hT : ErrT w) : Calls Tryz.prog 14 #[.slice a src.length c] w (CsPost w (pcsR src)) := by
  have hmf : ∀ (fn : Fn) (first cap : Array Value) (w : World), (Instr.makeFunc fn first cap).run Tryz.prog w = .ok (.func fn first cap) w := fun _ _ _ _ => rfl
  have HV := hidX hv
  have HF := hidX hfar
  have HE := hidX hE
  have HT := hidX hT
  clear hv hfar hE hT
  go_enter Tryz.func14, Tryz.ntmps14
  go_upto_region 1 with fail
  refine lift_alloc ?_
  intro w1 hW1 hq1
  have hl1 : w.heap.size < w1.heap.size := lt_of_block' hq1
  have HW1 := hidX hW1
  have HQ1 := hidX hq1
  clear hW1 hq1
  go_upto_region 2 with (first | (go_at_call 22; refine (newParser_any a src.length c w1).mono ?_; rintro e w2 ⟨rfl, hb2, am, cm, hq2, hA2, hC2, hla, hlc⟩) | fail)
  have HE1 : EnvAt w1 w1.heap.size := ⟨(HE.out.keep HW1.out).err, (HE.out.keep HW1.out).tests, Nat.lt_trans HE.out.g1 hl1, Nat.lt_trans HE.out.g2 hl1⟩
  have hT2 : ErrT w2 := (World.cell?_of_block (w := w) (((HW1.out.trans (hb2.mono (Nat.le_of_lt hl1))).block 0 (lt_cellX HT.out)))).trans HT.out
  have c02 := cell_of hq2 (j := 0) rfl
  have hp2 : w1.heap.size < w2.heap.size := lt_of_block' hq2
  have HFF := hidX (ffScript_any w2 w1.heap.size src a c c02 hT2 (Nat.lt_trans (lt_cellX HT.out) hl1) (unitR (pCmds 200 (wordsOf src))) (ScrQ w1.heap.size src a c (.map (some am)) (.map (some cm)) (.slice none 0 0) (.slice none 0 0) (.int .i64 0) (match pCmds 200 (wordsOf src) with | .error _ => [] | .ok (vs, _) => vs)) (fun hl u hu => by
    have hr := NpPost.ready hq2 hb2 (HV.out.below HW1.out) hcap hl (fun b o e => Nat.lt_trans (HF.out b o e) hl1) HE1
    refine (script_any u w1.heap.size cm src a c (wordsOf src) (.map (some am)) (.slice none 0 0) (.slice none 0 0) (.int .i64 0) (hr.below hu) (hC2.below hu) hlc).mono ?_
    intro e w' hp
    obtain ⟨hm, hp⟩ := hp
    refine ⟨hm, ?_⟩
    unfold unitR
    cases hc : pCmds 200 (wordsOf src) with
    | error f => rw [hc] at hp; exact hp
    | ok q =>
      obtain ⟨vs, l⟩ := q
      rw [hc] at hp
      obtain ⟨he, la, lc, M, h1, h2, h3⟩ := hp
      exact ⟨he, la, lc, M, l, h1, h2, h3⟩))
  have HRB2 := hidX ((hb2.block w.heap.size hl1).trans HQ1.out)
  have BL2 := hidX (HW1.out.trans (hb2.mono (Nat.le_of_lt hl1)) : Below w.heap.size w w2)
  clear hb2 hq2 hA2 hC2 hla hlc HE1 hT2 c02
  cases hr : (if 20000 < src.length then .error (4, 0) else unitR (pCmds 200 (wordsOf src)) : Except Flt Unit) with
  | error f =>
    have hpc : pcsR src = .error f := by
      unfold pcsR
      unfold unitR at hr
      split at hr
      · rw [if_pos (by assumption)]
        injection hr with hr
        rw [hr]
      · rw [if_neg (by assumption)]
        cases hc : pCmds 200 (wordsOf src) with
        | error f' =>
          rw [hc] at hr
          injection hr with hr
          rw [hr]
        | ok q => rw [hc] at hr; cases hr
    have HPC := hidX hpc
    have hne := pcs_code hpc
    have hne' : (f.1 != 0) = true := by simpa using hne
    unfold FfPost at HFF
    rw [hr] at HFF
    clear hr hpc
    go_upto_region 3 with (first | (go_at_call 23; refine HFF.out.mono ?_; rintro e w3 ⟨hm3, rfl⟩) | fail)
    refine lift_alloc ?_
    intro w4 hW4 hq4
    have hs3 := hm3.rest.size
    have hs4 : w3.heap.size < w4.heap.size := lt_of_block' hq4
    have d0 := cell_of (L := [_, _]) hq4 (j := 0) rfl
    have d1 := cell_of (L := [_, _]) hq4 (j := 1) rfl
    have hrq := (hW4.block w.heap.size (by omega)).trans ((hm3.block w.heap.size (by omega) (fun e => by injection e; omega)).trans HRB2.out)
    have BL4 := hidX ((BL2.out.trans (hm3.below (by omega) (fun g e => by injection e; omega))).trans (hW4.mono (by omega)) : Below w.heap.size w w4)
    clear hW4 hq4 hm3 HFF hne
    go_wp2_with (first | (refine wpList_store_blk (by rfl) 35 (.tmp 2) (.tmp 18) (by rfl) w.heap.size (csL f.1 f.2 (.slice none 0 0)) (by rfl) (by rfl) _ 35 hrq (by rfl) infoCs (csL_one _ _ _ _ _) ?_; intro w5 hb5 ht5) | fail)
    have hld := run_loadVar_mid (P := Tryz.prog) w5 w.heap.size 0 35 (csL f.1 f.2 (.slice none 0 0)) _ (range_blk hb5.out) Tryz.underlying35 rfl infoCs
    (try go_frame)
    refine bodyPost_ret (v := .agg (csL f.1 f.2 (.slice none 0 0)).toArray) (by simp [results, Tryz.results14, asAddr, hld]) rfl ⟨BL4.out.trans (ht5.out.below (Nat.le_refl _)), f.1, f.2, none, 0, [], rfl, CO.nil _ _, ?_⟩
    rw [HPC.out]
    exact ⟨rfl, rfl, rfl⟩
  | ok u =>
    have hpc : ∃ vs l, pCmds 200 (wordsOf src) = .ok (vs, l) ∧ pcsR src = .ok (vs, l) := by
      unfold pcsR
      unfold unitR at hr
      split at hr
      · cases hr
      · rw [if_neg (by assumption)]
        cases hc : pCmds 200 (wordsOf src) with
        | error f' => rw [hc] at hr; cases hr
        | ok q => exact ⟨q.1, q.2, rfl, rfl⟩
    obtain ⟨vs, l, hp1, hpc⟩ := hpc
    have HPC := hidX hpc
    unfold FfPost at HFF
    rw [hr, hp1] at HFF
    clear hr hpc hp1
    go_upto_region 3 with (first | (go_at_call 23; refine HFF.out.mono ?_; rintro e w3 ⟨hm3, rfl, u1, u2, hu1, hul, ⟨la, lc, M, l', hMv, hco, hps⟩, ⟨cs, hcs⟩, ht3⟩) | fail)
    refine lift_alloc ?_
    intro w4 hW4 hq4
    have hs3 := hm3.rest.size
    have hs4 : w3.heap.size < w4.heap.size := lt_of_block' hq4
    have d0 := cell_of (L := [_, _]) hq4 (j := 0) rfl
    have d1 := cell_of (L := [_, _]) hq4 (j := 1) rfl
    have hrq := (hW4.block w.heap.size (by omega)).trans ((hm3.block w.heap.size (by omega) (fun e => by injection e; omega)).trans HRB2.out)
    have BL4 := hidX ((BL2.out.trans (hm3.below (by omega) (fun g e => by injection e; omega))).trans (hW4.mono (by omega)) : Below w.heap.size w w4)
    have hp4 := ((hps.turned ht3 hp2).below hW4).cell (j := 3) rfl
    have C4 := hidX (((hco.turned ht3 hcs (by decide) (by decide)).mko (MkO.of_below hW4 : MkO (some w1.heap.size) w3 w4) (by omega)).base (show w.heap.size ≤ u1.heap.size by omega))
    have HMV := hidX hMv
    clear hW4 hq4 hm3 HFF hps hco hcs ht3 hMv hu1
    go_wp2_with (first | (refine wpList_store_blk (by rfl) 35 (.tmp 2) (.tmp 23) (by rfl) w.heap.size (csL 0 0 (.slice la M.length lc)) (by rfl) (by rfl) _ 35 hrq (by rfl) infoCs (csL_one _ _ _ _ _) ?_; intro w5 hb5 ht5) | fail)
    have hld := run_loadVar_mid (P := Tryz.prog) w5 w.heap.size 0 35 (csL 0 0 (.slice la M.length lc)) _ (range_blk hb5.out) Tryz.underlying35 rfl infoCs
    (try go_frame)
    refine bodyPost_ret (v := .agg (csL 0 0 (.slice la M.length lc)).toArray) (by simp [results, Tryz.results14, asAddr, hld]) rfl ⟨BL4.out.trans (ht5.out.below (Nat.le_refl _)), 0, 0, la, lc, M, rfl, C4.out.turned ht5.out hrq (by decide) (by decide), ?_⟩
    rw [HPC.out]
    exact ⟨rfl, rfl, HMV.out⟩
end Go.Proofs.YtdhpoagjmiligaaGreatDoor

namespace Go.Proofs.YtdhpoagjmiligaaGreatDoor
open Go.RowKit
attribute [local go_sem ↓] Go.wp_at_zero Go.wp_at_succ

def rC (r : Px (List Cd)) : Int := match r with
  | .error f => f.1
  | .ok _ => 0
def rP (r : Px (List Cd)) : Int := match r with
  | .error f => (f.2 : Int)
  | .ok _ => 0
def rL (r : Px (List Cd)) : List Cd := match r with
  | .error _ => []
  | .ok (vs, _) => vs
def CmPost (w : World) (C P : Int) (L : List Cd) (e : Ending) (w' : World) : Prop := Below w.heap.size w w' ∧ ∃ (la : Option Addr) (lc : Nat) (M : List CdX), e = .returned (.agg #[.int .i64 C, .int .i64 P, .slice la M.length lc]) ∧ CO w' w.heap.size la lc M ∧ M.map Prod.fst = L
theorem CsPost.out {w w' : World} {r : Px (List Cd)} {e : Ending} (h : CsPost w r e w') : CmPost w (rC r) (rP r) (rL r) e w' := by
  obtain ⟨hb, code, pos, la, lc, M, he, hc, hm⟩ := h
  refine ⟨hb, la, lc, M, ?_, hc, ?_⟩
  · cases r with
    | error f => rw [he, hm.1, hm.2.1]; rfl
    | ok q => rw [he, hm.1, hm.2.1]; rfl
  · cases r with
    | error f => rw [hm.2.2]; rfl
    | ok q => exact hm.2.2
theorem pList_le {α : Type} {rd : List Wd → Px α} : ∀ {n : Nat} {l l2 : List Wd} {vs : List α}, pList rd n l = .ok (vs, l2) → vs.length ≤ n := by
  intro n
  induction n with
  | zero =>
    intro l l2 vs h
    unfold pList at h
    cases hr : nextW l with
    | error f => rw [hr] at h; cases h
    | ok q =>
      rw [hr] at h
      simp only at h
      split at h
      · injection h with h
        injection h with h _
        subst h
        simp
      · split at h <;> cases h
  | succ n ih =>
    intro l l2 vs h
    unfold pList at h
    cases hr : nextW l with
    | error f => rw [hr] at h; cases h
    | ok q =>
      rw [hr] at h
      simp only at h
      split at h
      · injection h with h
        injection h with h _
        subst h
        simp
      · cases hv : rd l with
        | error f => rw [hv] at h; cases h
        | ok q =>
          rw [hv] at h
          simp only at h
          cases hp : pList rd n q.2 with
          | error f => rw [hp] at h; cases h
          | ok p =>
            rw [hp] at h
            simp only at h
            injection h with h
            injection h with h _
            subst h
            have := ih hp
            simp
            omega
theorem andP_inv {α β : Type} {r : Px α} {k : α → List Wd → Px β} {y : β} {l : List Wd} (h : andP r k = .ok (y, l)) : ∃ x l1, r = .ok (x, l1) ∧ k x l1 = .ok (y, l) := by
  cases r with
  | error f => cases h
  | ok q => exact ⟨q.1, q.2, rfl, h⟩
theorem pCmd_le {l l2 : List Wd} {v : Cd} (h : pCmd l = .ok (v, l2)) : v.slots.length ≤ 6 := by
  obtain ⟨x, l1, _, h⟩ := andP_inv h
  have num : ∀ k, cNum k l1 = .ok (v, l2) → v.slots.length ≤ 6 := fun k h => by
    obtain ⟨y, l3, _, h⟩ := andP_inv h
    obtain ⟨z, l4, _, h⟩ := andP_inv h
    injection h with h
    injection h with h _
    subst h
    simp
  split at h
  · exact num 4 h
  · split at h
    · obtain ⟨y, l3, _, h⟩ := andP_inv h
      obtain ⟨z, l4, hz, h⟩ := andP_inv h
      injection h with h
      injection h with h _
      subst h
      exact pList_le hz
    · split at h
      · exact num 2 h
      · split at h
        · obtain ⟨y, l3, _, h⟩ := andP_inv h
          obtain ⟨z, l4, hz, h⟩ := andP_inv h
          injection h with h
          injection h with h _
          subst h
          exact pList_le hz
        · cases h
theorem pCmds_le : ∀ {n : Nat} {l l2 : List Wd} {vs : List Cd}, pCmds n l = .ok (vs, l2) → vs.length ≤ n ∧ ∀ x ∈ vs, x.slots.length ≤ 6 := by
  intro n
  induction n with
  | zero =>
    intro l l2 vs h
    unfold pCmds at h
    cases hr : nextW l with
    | error f => rw [hr] at h; cases h
    | ok q =>
      rw [hr] at h
      simp only at h
      split at h
      · injection h with h
        injection h with h _
        subst h
        simp
      · split at h <;> cases h
  | succ n ih =>
    intro l l2 vs h
    unfold pCmds at h
    cases hr : nextW l with
    | error f => rw [hr] at h; cases h
    | ok q =>
      rw [hr] at h
      simp only at h
      split at h
      · injection h with h
        injection h with h _
        subst h
        simp
      · cases ht : takeW 40 l with
        | error f => rw [ht] at h; cases h
        | ok q =>
          rw [ht] at h
          simp only at h
          cases hv : pCmd q.2 with
          | error f => rw [hv] at h; cases h
          | ok q2 =>
            rw [hv] at h
            simp only at h
            cases hp : pCmds n q2.2 with
            | error f => rw [hp] at h; cases h
            | ok p =>
              rw [hp] at h
              simp only at h
              injection h with h
              injection h with h _
              subst h
              have h1 := ih hp
              refine ⟨by simp; omega, fun x hx => ?_⟩
              rcases List.mem_cons.1 hx with rfl | hx
              · exact pCmd_le hv
              · exact h1.2 x hx
theorem pcs_le (src : Bs) : (rL (pcsR src)).length ≤ 200 ∧ ∀ x ∈ rL (pcsR src), x.slots.length ≤ 6 := by
  cases h : pcsR src with
  | error f => simp [rL]
  | ok q =>
    unfold pcsR at h
    split at h
    · cases h
    · exact pCmds_le h
/-- Commands in blocks below a bound. -/
structure CoIn (w : World) (L : Nat) (a : Option Addr) (c : Nat) (M : List CdX) : Prop where
  co : CO w 0 a c M
  le : L ≤ w.heap.size
  rb : ∀ g, (Value.slice a M.length c).ownBlock = some g → g < L
  vb : ∀ x ∈ M, ∀ g, x.2.ownBlock = some g → g < L
theorem CO.low {w : World} {B : Nat} {a : Option Addr} {c : Nat} {M : List CdX} (h : CO w B a c M) : CoIn w w.heap.size a c M :=
  ⟨⟨owns_base h.row (Nat.zero_le _), fun x hx => by
    obtain ⟨la, lc, e1, e2⟩ := h.all x hx
    exact ⟨la, lc, e1, owns_base e2 (Nat.zero_le _)⟩, h.pair⟩, Nat.le_refl _, fun g hg => (h.row.lt g hg).2, fun x hx g hg => by
    obtain ⟨la, lc, _, e2⟩ := h.all x hx
    exact (e2.lt g hg).2⟩
theorem CoIn.keep {w w' : World} {L B : Nat} {a : Option Addr} {c : Nat} {M : List CdX} (h : CoIn w L a c M) (hb : Below B w w') (hL : L ≤ B) : CoIn w' L a c M :=
  ⟨⟨owns_of_block h.co.row fun g hg => hb.block g (Nat.lt_of_lt_of_le (h.rb g hg) hL), fun x hx => by
    obtain ⟨la, lc, e1, e2⟩ := h.co.all x hx
    exact ⟨la, lc, e1, owns_of_block e2 fun g hg => hb.block g (Nat.lt_of_lt_of_le (h.vb x hx g hg) hL)⟩, h.co.pair⟩, Nat.le_trans h.le hb.size, h.rb, h.vb⟩
theorem CO.keepO {w w' : World} {B : Nat} {b : Option Nat} {a : Option Addr} {c : Nat} {M : List CdX} (h : CO w B a c M) (hm : MkO b w w') (hb : ∀ g, b = some g → g < B) : CO w' B a c M :=
  ⟨owns_of_block h.row fun g hg => hm.block g (h.row.lt g hg).2 (fun e => by have h1 := (h.row.lt g hg).1; have h2 := hb g e; omega), fun x hx => by
    obtain ⟨la, lc, e1, e2⟩ := h.all x hx
    exact ⟨la, lc, e1, owns_of_block e2 fun g hg => hm.block g (e2.lt g hg).2 (fun e => by have h1 := (e2.lt g hg).1; have h2 := hb g e; omega)⟩, h.pair⟩
theorem CO.inC {w : World} {B : Nat} {a : Option Addr} {c : Nat} {M : List CdX} (h : CO w B a c M) : ∀ g, InC (.slice a M.length c) M g → B ≤ g := by
  rintro g (e | ⟨x, hx, e⟩)
  · exact (h.row.lt g e).1
  · obtain ⟨la, lc, _, e2⟩ := h.all x hx
    exact (e2.lt g e).1
theorem EnvAt.later {w w' : World} (h : EnvAt w w.heap.size) (hb : Below w.heap.size w w') : EnvAt w' w'.heap.size :=
  ⟨(h.keep hb).err, (h.keep hb).tests, Nat.lt_of_lt_of_le h.g1 hb.size, Nat.lt_of_lt_of_le h.g2 hb.size⟩
theorem ErrT.later {w w' : World} (h : ErrT w) (hb : Below w.heap.size w w') : ErrT w' := (World.cell?_of_block (w := w) (hb.block 0 (lt_cellX h))).trans h
/-- What the law asks of the program's own variables. -/
structure VarsS (w : World) : Prop where
  env : EnvAt w w.heap.size
  err : ErrT w
def csV (C P : Int) (a : Option Addr) (n c : Nat) : List Value := [.int .i64 C, .int .i64 P, .slice a n c]
/-- What the law holds while it goes on. -/
structure LsS (w u : World) (n L2 B4 b2 b4 : Nat) (C P : Int) (a2 : Option Addr) (c2 : Nat) (M2 : List CdX) (a4 : Option Addr) (c4 : Nat) (M4 : List CdX) (xs : List Value) : Prop where
  bl : Below w.heap.size w u
  o2 : CoIn u L2 a2 c2 M2
  q2 : u.heap[b2]? = some (.cells (csV C P a2 M2.length c2).toArray 35 (0, 0))
  g4 : CO u B4 a4 c4 M4
  q4 : u.heap[b4]? = some (.cells (csV C P a4 M4.length c4).toArray 35 (0, 0))
  x3 : u.ownsRow L2 5 1 (.slice (some ⟨L2, 0, none⟩) n n) n xs
theorem LsS.below {w u u' : World} {n L2 B4 b2 b4 : Nat} {C P : Int} {a2 : Option Addr} {c2 : Nat} {M2 : List CdX} {a4 : Option Addr} {c4 : Nat} {M4 : List CdX} {xs : List Value} (h : LsS w u n L2 B4 b2 b4 C P a2 c2 M2 a4 c4 M4 xs) (hb : Below u.heap.size u u') : LsS w u' n L2 B4 b2 b4 C P a2 c2 M2 a4 c4 M4 xs :=
  ⟨h.bl.trans (hb.mono h.bl.size), h.o2.keep hb h.o2.le, (hb.block b2 (lt_of_block' h.q2)).trans h.q2, h.g4.below hb, (hb.block b4 (lt_of_block' h.q4)).trans h.q4, own_bel h.x3 hb⟩
theorem LsS.markX {w u u' : World} {n L2 B4 b2 b4 : Nat} {C P : Int} {a2 : Option Addr} {c2 : Nat} {M2 : List CdX} {a4 : Option Addr} {c4 : Nat} {M4 : List CdX} {xs ys : List Value} (h : LsS w u n L2 B4 b2 b4 C P a2 c2 M2 a4 c4 M4 xs) (hm : MkO (Value.slice (some ⟨L2, 0, none⟩) n n).ownBlock u u') (hx : u'.ownsRow L2 5 1 (.slice (some ⟨L2, 0, none⟩) n n) n ys) (hw : w.heap.size ≤ L2) (hb2 : b2 < L2) (hB4 : L2 < B4) (hb4 : B4 ≤ b4) : LsS w u' n L2 B4 b2 b4 C P a2 c2 M2 a4 c4 M4 ys := by
  have e : ∀ g, (Value.slice (some ⟨L2, 0, none⟩) n n).ownBlock = some g → g = L2 := fun g hg => by injection hg with hg; exact hg.symm
  have hlow : Below L2 u u' := hm.below (h.o2.le) (fun g hg => by rw [e g hg]; exact Nat.le_refl _)
  exact ⟨h.bl.trans (hlow.mono hw), h.o2.keep hlow (Nat.le_refl _), (hlow.block b2 hb2).trans h.q2, h.g4.keepO hm (fun g hg => by rw [e g hg]; exact hB4), (hm.block b4 (lt_of_block' h.q4) (fun hg => by have := e b4 hg; omega)).trans h.q4, hx⟩
theorem LsS.cells {w u : World} {n L2 B4 b2 b4 : Nat} {C P : Int} {a2 : Option Addr} {c2 : Nat} {M2 : List CdX} {a4 : Option Addr} {c4 : Nat} {M4 : List CdX} {xs : List Value} (h : LsS w u n L2 B4 b2 b4 C P a2 c2 M2 a4 c4 M4 xs) : (u.cell? ⟨b2, 0, none⟩ = some (.int .i64 C) ∧ u.cell? ⟨b2, 1, none⟩ = some (.int .i64 P) ∧ u.cell? ⟨b2, 2, none⟩ = some (.slice a2 M2.length c2)) ∧ u.cell? ⟨b4, 0, none⟩ = some (.int .i64 C) ∧ u.cell? ⟨b4, 1, none⟩ = some (.int .i64 P) ∧ u.cell? ⟨b4, 2, none⟩ = some (.slice a4 M4.length c4) :=
  ⟨⟨cell_of h.q2 (j := 0) rfl, cell_of h.q2 (j := 1) rfl, cell_of h.q2 (j := 2) rfl⟩, cell_of h.q4 (j := 0) rfl, cell_of h.q4 (j := 1) rfl, cell_of h.q4 (j := 2) rfl⟩
set_option maxRecDepth 100000 in
set_option maxHeartbeats 3200000 in
theorem law_ps (src : Bs) (a : Option Addr) (c : Nat) (w : World) (hv : BysAt w a src) (hV : VarsS w) :
    Calls Tryz.prog 4 #[.slice a src.length c] w fun e w' => e = .returned (.bool true) ∧ Below w.heap.size w w' := by
  by_cases hbig : 1048576 < src.length
  · have h1 : (1048576 : Int) < (src.length : Int) := by omega
    go_enter Tryz.func4, Tryz.ntmps4
    go_wp2_with fail
    go_ret
    exact ⟨rfl, Below.refl _ _⟩
  · have h1 : ¬ (1048576 : Int) < (src.length : Int) := by omega
    have hsl : src.length ≤ 1048576 := by omega
    have HV := hidX hv
    have HVV := hidX hV
    have TB := hidX (fun w' (h : Below w.heap.size w w') => toByteS_any a c src w' (HV.out.below h) hsl)
    have SM := hidX (fun w' g B (h : w'.ownsRow B 5 1 (.slice (some ⟨g, 0, none⟩) src.length src.length) src.length (byV src)) => (mParseScript_any src (some ⟨g, 0, none⟩) src.length w' (BysAt.owns h) (Nat.le_refl _) hsl).mono fun e w'' hp => CsPost.out hp)
    have IM := hidX (fun w' g B (h : w'.ownsRow B 5 1 (.slice (some ⟨g, 0, none⟩) src.length src.length) src.length (byV src)) (hb : Below w.heap.size w w') => (iParseScript_any src (some ⟨g, 0, none⟩) src.length w' (BysAt.owns h) (Nat.le_refl _) (fun b o e => by injection e with e; injection e with e1 _; rw [← e1]; exact (h.lt g rfl).2) (HVV.out.env.later hb) (HVV.out.err.later hb)).mono fun e w'' hp => CsPost.out hp)
    rw [cs_same src] at SM
    obtain ⟨hL1, hL2⟩ := pcs_le src
    generalize rC (pcsR src) = C at SM IM
    generalize rP (pcsR src) = P at SM IM
    generalize rL (pcsR src) = L at SM IM hL1 hL2
    have HL2 := hidX hL2
    clear hv hV hL2 hbig
    go_enter Tryz.func4, Tryz.ntmps4
    go_upto_region 4 with (first | (go_at_call 6; refine (TB.out w (Below.refl _ _)).mono ?_; rintro e w1 ⟨rfl, o1, hb1⟩) | (go_at_call 13; refine (SM.out w1 _ _ o1).mono ?_; rintro e w2 ⟨hb2, a2, c2, M2, rfl, co2, e2⟩) | fail)
    refine lift_alloc ?_
    intro w2b hW2 hq2
    have hB1 : Below w.heap.size w w1 := hb1
    have hB2 : Below w.heap.size w w2 := hB1.trans (hb2.mono hB1.size)
    have hB2b : Below w.heap.size w w2b := hB2.trans (hW2.mono hB2.size)
    have s2 : w2.heap.size < w2b.heap.size := lt_of_block' hq2
    have O2 := hidX (co2.below hW2).low
    have Q2 := hidX (show w2b.heap[w2.heap.size]? = some (.cells (csV C P a2 M2.length c2).toArray 35 (0, 0)) from hq2)
    have E2 := hidX e2
    have hsz2 := hB2.size
    clear co2 o1 SM e2 hW2 hq2 hb1 hb2 hB1
    go_upto_region 6 with (first | (go_at_call 6; refine (TB.out w2b hB2b).mono ?_; rintro e w3 ⟨rfl, o3, hb3⟩) | (go_at_call 14; refine (IM.out w3 _ _ o3 (hB2b.trans (hb3.mono hB2b.size))).mono ?_; rintro e w4 ⟨hb4, a4, c4, M4, rfl, co4, e4⟩) | fail)
    refine lift_alloc ?_
    intro w4b hW4 hq4
    have hB3 : Below w.heap.size w w3 := hB2b.trans (hb3.mono hB2b.size)
    have hB4 : Below w.heap.size w w4 := hB3.trans (hb4.mono hB3.size)
    have s23 : w2b.heap.size < w3.heap.size := (o3.lt _ rfl).2
    have s34 := hb4.size
    have s4 : w4.heap.size < w4b.heap.size := lt_of_block' hq4
    have E4 := hidX e4
    have hM4 : M4.length ≤ 200 := by rw [← List.length_map Prod.fst, e4]; exact hL1
    have HS4 : Hid (∀ x ∈ M4, x.1.slots.length ≤ 6) := fun x hx => HL2.out x.1 (by rw [← E4.out]; exact List.mem_map_of_mem hx)
    have IC4 := hidX (fun g (hg : InC (.slice a4 M4.length c4) M4 g) => (show g < w4.heap.size from by
      rcases hg with e | ⟨x, hx, e⟩
      · exact (co4.row.lt g e).2
      · obtain ⟨la, lc, _, e2⟩ := co4.all x hx
        exact (e2.lt g e).2))
    have S4 := hidX (show LsS w w4b src.length w2b.heap.size w3.heap.size w2.heap.size w4.heap.size C P a2 c2 M2 a4 c4 M4 (byV src) from ⟨hB4.trans (hW4.mono hB4.size), ((O2.out.keep hb3 (Nat.le_refl _)).keep hb4 (by omega)).keep hW4 (by omega), (hW4.block _ (by omega)).trans ((hb4.block _ (by omega)).trans ((hb3.block _ s2).trans Q2.out)), co4.below hW4, hq4, own_bel (own_bel o3 hb4) hW4⟩)
    have EQ := hidX (fun u B (h2 : CoIn u w2b.heap.size a2 c2 M2) (aa : Option Addr) (cc : Nat) (MM : List CdX) (h4 : CO u B aa cc MM) (ee : MM.map Prod.fst = L) => (show Calls Tryz.prog 15 #[.agg #[.int .i64 C, .int .i64 P, .slice aa MM.length cc], .agg #[.int .i64 C, .int .i64 P, .slice a2 M2.length c2]] u fun e w' => e = .returned (.bool true) ∧ Below u.heap.size u w' from by
      have q := eqCommands_same C P aa a2 cc c2 L u (by rw [← ee]; exact h4.at) (by rw [← E2.out]; exact h2.co.at) (by omega) (fun x hx => by have := HL2.out x hx; omega)
      have l1 : L.length = MM.length := by rw [← ee, List.length_map]
      have l2 : L.length = M2.length := by rw [← E2.out, List.length_map]
      rw [show (Value.slice aa MM.length cc) = .slice aa L.length cc by rw [l1], show (Value.slice a2 M2.length c2) = .slice a2 L.length c2 by rw [l2]]
      exact q))
    clear co4 e4 o3 O2 Q2 hW4 hq4 hb3 hb4 hB3 hB4 hB2b hB2
    obtain ⟨⟨z0, z1, z2⟩, y0, y1, y2⟩ := S4.out.cells
    go_upto_region 8 with (first | (go_at_call 15; refine (EQ.out _ _ S4.out.o2 _ _ _ S4.out.g4 E4.out).mono ?_; rintro e w5 ⟨rfl, hb5⟩) | fail)
    have S5 := hidX (S4.out.below hb5)
    clear z0 z1 z2 y0 y1 y2 S4 hb5
    go_upto_region 11 with (first | (go_at_call 6; refine (TB.out w5 S5.out.bl).mono ?_; rintro e w6 ⟨rfl, o6, hb6⟩) | (go_at_call 9; refine (eqByteS_same _ _ _ _ src w6 (BysAt.owns (S5.out.below hb6).x3) (BysAt.owns o6) (by omega)).mono ?_; rintro e w7 ⟨rfl, hb7⟩) | fail)
    have S7 := hidX ((S5.out.below hb6).below hb7)
    clear S5 hb6 hb7 o6
    go_upto_region 12 with (first | (go_at_call 10; refine (markByteS_mk _ _ _ _ _ w7 S7.out.x3 (byV_len src) (by omega)).mono ?_; rintro e w8 ⟨rfl, o8, hm8⟩) | fail)
    have S8 := hidX (S7.out.markX hm8 o8 (by omega) s2 s23 s34)
    clear S7 hm8 o8
    obtain ⟨⟨z0, z1, z2⟩, y0, y1, y2⟩ := S8.out.cells
    have b1 : ¬ (1 + (src.length : Int)) < 0 := by omega
    go_upto_region 15 with (first | (go_at_call 15; refine (EQ.out _ _ S8.out.o2 _ _ _ S8.out.g4 E4.out).mono ?_; rintro e w9 ⟨rfl, hb9⟩) | fail)
    have S9 := hidX (S8.out.below hb9)
    clear z0 z1 z2 y0 y1 y2 S8 hb9 b1
    obtain ⟨⟨z0, z1, z2⟩, y0, y1, y2⟩ := S9.out.cells
    have hme : mEnd 1 M4 ≤ 100000000 := by
      have := mEnd_le (N := 6) M4 1 HS4.out
      omega
    have hmg := mEnd_ge M4 1
    have HMA := hidX (markCommands_any C P a4 c4 M4 w3.heap.size 1 w9 S9.out.g4 (by omega) (fun x hx => by have := HS4.out x hx; omega) (by omega) hme)
    have HHE := hidX (fun u (hu : CdsAt u a4 ((mkM 1 M4).map Prod.fst)) => heldCommands_any C P a4 c4 M4 1 u hu (by omega) (fun x hx => by have := HS4.out x hx; omega) (by omega) hme)
    obtain ⟨E, hE⟩ : ∃ E, E = mEnd 1 M4 := ⟨_, rfl⟩
    rw [← hE] at HMA HHE hmg
    clear hE hme z0 z1 z2
    go_upto_region 17 with (first | (go_at_call 16; refine HMA.out.mono ?_; rintro e w10 ⟨rfl, co10, hm10⟩) | fail)
    have hlow : Below w3.heap.size w9 w10 := hm10.below (by have h1 := S9.out.g4.below (Below.refl _ _); have h2 := lt_of_block' S9.out.q4; omega) S9.out.g4.inC
    have O10 := hidX (S9.out.o2.keep hlow (by omega))
    have Q10 := hidX ((hlow.block w2.heap.size (by omega)).trans S9.out.q2)
    have Z10 := hidX ((hm10.block w4.heap.size (lt_of_block' S9.out.q4) (fun hg => by have := IC4.out _ hg; omega)).trans S9.out.q4)
    have B10 := hidX (S9.out.bl.trans (hlow.mono (by omega)))
    have C10 := hidX co10.at
    clear S9 hm10 co10 HMA y0 y1 y2 hlow
    have y0 := cell_of Z10.out (j := 0) rfl
    have y1 := cell_of Z10.out (j := 1) rfl
    have y2 := cell_of Z10.out (j := 2) rfl
    have b2 : ¬ E < 0 := by omega
    go_upto_region 22 with (first | (go_at_call 17; refine (HHE.out w10 C10.out).mono ?_; rintro e w11 ⟨rfl, hb11⟩) | fail)
    have B11 := hidX (B10.out.trans (hb11.mono B10.out.size))
    have O11 := hidX (O10.out.keep hb11 O10.out.le)
    have Q11 := hidX ((hb11.block w2.heap.size (lt_of_block' Q10.out)).trans Q10.out)
    clear y0 y1 y2 B10 O10 Q10 Z10 C10 hb11 HHE b2 hmg
    go_upto_region 23 with (first | (go_at_call 6; refine (TB.out w11 B11.out).mono ?_; rintro e w12 ⟨rfl, o12, hb12⟩) | (go_at_call 14; refine (IM.out w12 _ _ o12 (B11.out.trans (hb12.mono B11.out.size))).mono ?_; rintro e w13 ⟨hb13, a13, c13, M13, rfl, co13, e13⟩) | fail)
    refine lift_alloc ?_
    intro w14 hW14 hq14
    have hB12 := B11.out.trans (hb12.mono B11.out.size)
    have hB13 := hB12.trans (hb13.mono hB12.size)
    have B14 := hidX (hB13.trans (hW14.mono hB13.size))
    have O14 := hidX (((O11.out.keep hb12 O11.out.le).keep hb13 (Nat.le_trans O11.out.le hb12.size)).keep hW14 (Nat.le_trans (Nat.le_trans O11.out.le hb12.size) hb13.size))
    have l11 := lt_of_block' Q11.out
    have s12 := hb12.size
    have s13 := hb13.size
    have q14 := (hW14.block w2.heap.size (by omega)).trans ((hb13.block w2.heap.size (by omega)).trans ((hb12.block w2.heap.size l11).trans Q11.out))
    have G14 := hidX (co13.below hW14)
    have E13 := hidX e13
    have z0 := cell_of q14 (j := 0) rfl
    have z1 := cell_of q14 (j := 1) rfl
    have z2 := cell_of q14 (j := 2) rfl
    have y0 := cell_of (L := csV C P a13 M13.length c13) hq14 (j := 0) rfl
    have y1 := cell_of (L := csV C P a13 M13.length c13) hq14 (j := 1) rfl
    have y2 := cell_of (L := csV C P a13 M13.length c13) hq14 (j := 2) rfl
    clear hW14 hq14 hb12 hb13 hB12 hB13 co13 o12 e13 O11 Q11 B11 q14
    go_wp2_with (first | (go_at_call 15; refine (EQ.out _ _ O14.out _ _ _ G14.out E13.out).mono ?_; rintro e w15 ⟨rfl, hb15⟩) | fail)
    go_ret
    exact ⟨rfl, B14.out.trans (hb15.mono B14.out.size)⟩
end Go.Proofs.YtdhpoagjmiligaaGreatDoor

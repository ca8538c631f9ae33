/-
  OUR OWN TEXT. The program: rules as a text.
-/
import Derived.Test.YtfgpcjdjbbhdmaaGreatDoorXf
import Derived.Test.YtfgpcjdjbbhdmaaGreatDoorTx12m
import Derived.Test.YtfgpcjdjbbhdmaaGreatDoorZn
import Derived.Lib.AppendStr
namespace Go.Proofs.YtfgpcjdjbbhdmaaGreatDoor
open Go.RowKit
attribute [local go_sem ↓] Go.wp_at_zero Go.wp_at_succ

theorem infoU8 : (Tryz.prog.info? 5).map (fun i => (i.zero, i.size, i.bytes)) = some (some (.int .u8 0), 1, 1) := by kernel_rfl
theorem strCells_byV (l : Bs) : Lib.strCells (mkS l) = byV l := rfl
theorem byV_app (l l' : Bs) : byV (l ++ l') = byV l ++ byV l' := List.map_append
theorem own_form {w : World} {base n : Nat} {e : TypeId} {m : Nat} {v : Value} {xs : List Value} (h : w.ownsRow base e m v n xs) (hn : xs.length = n) : ∃ a c, v = .slice a n c := by
  rcases h.2 with ⟨rfl, rfl⟩ | ⟨g, cap, cur, rfl, _⟩
  · simp at hn
    subst hn
    exact ⟨none, 0, rfl⟩
  · exact ⟨_, _, rfl⟩
/-- What is answered: owned bytes. -/
def PPost (w : World) (l : Bs) (e : Ending) (w' : World) : Prop := (∃ a c, e = .returned (.slice a l.length c) ∧ w'.ownsRow w.heap.size 5 1 (.slice a l.length c) l.length (byV l)) ∧ Below w.heap.size w w'
theorem flat_take_leX {α β : Type} (g : α → List β) (l : List α) (j : Nat) : ((l.take j).flatMap g).length ≤ (l.flatMap g).length := by
  have h : l.flatMap g = (l.take j).flatMap g ++ (l.drop j).flatMap g := by
    rw [← List.flatMap_append, List.take_append_drop]
  rw [h, List.length_append]
  omega
theorem prnt_yes {rs : List Ru} (h : (chk rs).1 = 0) : prnt rs = txRs rs := if_pos h
theorem prnt_no {rs : List Ru} (h : ¬ (chk rs).1 = 0) : prnt rs = [] := if_neg h

set_option maxHeartbeats 3200000 in
theorem iPrint_any (rs : List Ru) (a : Option Addr) (c : Nat) (q : Option Nat) (w : World) (hv : RusAt q w a rs) (hc : rs.length ≤ c) (hle : ListLe Ru.le 1048576 rs) (ho : ∀ x ∈ rs, OpsOk x.exprs) (hn : ∀ x ∈ rs, RuN x) (hV : VarsAt w) :
    Calls Tryz.prog 22 #[.slice a rs.length c] w (PPost w (prnt rs)) := by
  have HC : Hid (Calls Tryz.prog 45 #[.slice a rs.length c] w fun e w' => e = .returned (ckV (chk rs)) ∧ Below w.heap.size w w') := iCheckRules_any a c rs w hv hc hle ho
  unfold ckV at HC
  by_cases hp : (chk rs).1 = 0
  · rw [prnt_yes hp]
    obtain ⟨h16, hT⟩ := chk_T hp hn
    rw [hp] at HC
    generalize (chk rs).2.1 = p1 at HC
    generalize (chk rs).2.2 = p2 at HC
    have HV := hidX hv
    have HVA := hidX hV
    have HT := hidX hT
    have hlen := txRs_le h16 hT
    have hfd : ∀ w : World, (Instr.field 98 (.agg #[.int .i64 0, .int .i64 p1, .int .i64 p2]) 0).run Tryz.prog w = .ok (.int .i64 0) w := fun _ => by kernel_rfl
    clear hv hV hT hle ho hn hp
    go_enter Tryz.func22, Tryz.ntmps22
    go_wp2_with (go_at_call 45; with_reducible refine HC.out.mono ?_; rintro e w1 ⟨rfl, hb1⟩)
    clear hfd
    obtain ⟨it, hi, hz0, hz1, hz2⟩ := info_parts infoU8
    have HI := hidX (show Tryz.prog.info? 5 = some it ∧ it.zero = some (.int .u8 0) ∧ it.size = 1 ∧ it.bytes = 1 from ⟨hi, hz0, hz1, hz2⟩)
    clear hi hz0 hz1 hz2
    go_loopw [3, 12] (fun sv iv wr => ∃ (k : Nat) (a' : Option Addr) (c' : Nat), k ≤ rs.length ∧ iv = .int .i64 (k : Int) ∧ sv = .slice a' (txRs (rs.take k)).length c' ∧ wr.ownsRow w.heap.size 5 1 (.slice a' (txRs (rs.take k)).length c') (txRs (rs.take k)).length (byV (txRs (rs.take k))) ∧ Below w.heap.size w wr) (fun _ iv _ => rs.length - (intOf iv).toNat)
    case atStart => exact ⟨0, none, 0, Nat.zero_le _, rfl, rfl, World.ownsRow_nil _ _ _ _, hb1⟩
    case round =>
      obtain ⟨k, a', c', hk, rfl, rfl, hown, hb⟩ := hrel
      have HR := hidX hown
      have HB := hidX hb
      have hsz := hb.size
      clear hown hb hb1
      by_cases hkl : k < rs.length
      · obtain ⟨x, hx⟩ : ∃ x, rs[k]? = some x := ⟨rs[k], by simp [hkl]⟩
        have hxT := HT.out x (List.mem_of_getElem? hx)
        obtain ⟨b, o, a1, c1, a2, c2, a3, c3, rfl, _, t0, t1, t2, t3, t4, hpt, hex, hac, _⟩ := (HV.out.below HB.out).get hx
        have HPT := hidX hpt
        have HEX := hidX hex
        have HAC := hidX hac
        have i0 : (0 : Int) ≤ (k : Int) := by omega
        have i1 : (k : Int) < (rs.length : Int) := by omega
        have HLT : Hid (txRs (rs.take (k + 1)) = txRs (rs.take k) ++ txR x) := flat_takeS txR hx
        have hl1 : (txRs (rs.take k)).length + (txR x).length ≤ 42000000000 := by
          have h1 := congrArg List.length HLT.out
          have h2 := flat_take_leX txR rs (k + 1)
          rw [List.length_append] at h1
          have h3 : (txRs (rs.take (k + 1))).length ≤ (txRs rs).length := h2
          omega
        have HA := hidX (fun o => (Below.refl _ _).alloc (Nat.le_refl _) o : ∀ o, Below wr.heap.size wr (wr.alloc o))
        have HVR := hidX (fun o => (HVA.out.below HB.out).below (HA.out o))
        clear hpt hex hac hx
        obtain ⟨n, hn⟩ : ∃ n, n = (txRs (rs.take k)).length := ⟨_, rfl⟩
        obtain ⟨X, hX⟩ : ∃ X, X = txRs (rs.take k) := ⟨_, rfl⟩
        rw [← hn] at HR hl1
        rw [← hX] at HR HLT hn
        rw [← hX, ← hn]
        have HN := hidX hn
        clear hX hn
        go_wp2_with (go_at_call 46; refine (rText_any x a1 c1 a2 c2 a3 c3 q _ (HPT.out.below (HA.out _)) (HEX.out.below (HA.out _)) (HAC.out.below (HA.out _)) hxT (HVR.out _)).mono ?_; rintro e w3 ⟨rfl, hb3⟩; refine Hid.out ?_)
        refine hidX ?_
        have hb3' := (HA.out _).trans (hb3.mono (HA.out _).size)
        have HR3 := hidX (own_bel HR.out hb3')
        have HB3 := hidX (HB.out.trans (hb3'.mono hsz))
        have hs3 := hb3'.size
        clear hb3 hb3' t0 t1 t2 t3 t4
        go_wp2_with (at_builtin; refine Lib.wpList_append_own_string w3 (by rfl) (.tmp 16) (.tmp 18) 22 9 (by rfl) w.heap.size 5 it Tryz.underlying22 Tryz.underlying9 HI.out.1 HI.out.2.1 HI.out.2.2.1 HI.out.2.2.2 _ n _ (by rfl) HR3.out (mkS (txR x)) (by rfl) (by unfold maxLen; rw [mkS_size]; omega) (by rw [mkS_size]; omega) (by omega) ?_; intro v4 w4 ho4 hg4 _)
        rw [mkS_size, strCells_byV, ← byV_app, ← HLT.out] at ho4
        have HB4 := hidX (HB3.out.grown hg4 (by omega) (fun j hj => (HR3.out.lt j hj).1))
        have hn2 : n + (txR x).length = (txRs (rs.take (k + 1))).length := by rw [HLT.out, List.length_append, HN.out]
        rw [hn2] at ho4
        obtain ⟨a4, c4, rfl⟩ := own_form ho4 (byV_len _)
        clear hn2
        go_wp2
        go_roundw
        case rel => exact ⟨k + 1, a4, c4, by omega, by go_num, rfl, ho4, HB4.out⟩
        case measure => (simp [intOf]; omega)
      · obtain rfl : k = rs.length := by omega
        have i1 : ¬ (rs.length : Int) < (rs.length : Int) := by omega
        go_wp2
        go_ret
        have h := HR.out
        rw [List.take_length] at h
        exact ⟨⟨a', c', rfl, h⟩, HB.out⟩
  · rw [prnt_no hp]
    generalize (chk rs).1 = p0 at HC hp
    generalize (chk rs).2.1 = p1 at HC
    generalize (chk rs).2.2 = p2 at HC
    have hp' : (p0 != 0) = true := by simpa using hp
    have hfd : ∀ w : World, (Instr.field 98 (.agg #[.int .i64 p0, .int .i64 p1, .int .i64 p2]) 0).run Tryz.prog w = .ok (.int .i64 p0) w := fun _ => by kernel_rfl
    clear hv hV hle ho hn hp
    go_enter Tryz.func22, Tryz.ntmps22
    go_wp2_with (go_at_call 45; with_reducible refine HC.out.mono ?_; rintro e w1 ⟨rfl, hb1⟩)
    go_ret
    exact ⟨⟨none, 0, rfl, World.ownsRow_nil _ _ _ _⟩, hb1⟩
end Go.Proofs.YtfgpcjdjbbhdmaaGreatDoor

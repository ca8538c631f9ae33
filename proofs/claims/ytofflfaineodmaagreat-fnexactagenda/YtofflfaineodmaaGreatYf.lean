/-
  OUR OWN TEXT. LawAg, RowAg, one behind the other.
-/
import Derived.Test.YtofflfaineodmaaGreatAg10m
import Derived.Test.YtofflfaineodmaaGreatAg13m
import Derived.Test.YtofflfaineodmaaGreatYa
import Derived.Test.YtofflfaineodmaaGreatYe
import Derived.Test.YtofflfaineodmaaGreatYc
import Derived.Test.YtofflfaineodmaaGreatYd
import Derived.Test.YtofflfaineodmaaGreatZh
import Derived.WalkKit
import Derived.ProofKit
import Derived.OpenShut
import Derived.ShutString
import Derived.ChangeOld
import Derived.Below
namespace Go.Proofs.YtofflfaineodmaaGreat
open Go.RowKit
attribute [local go_sem ↓] Go.wp_at_zero Go.wp_at_succ

theorem Iw.trA {w w' : World} {base : Nat} {a : Option Addr} {c : Nat} {M : List ItX} (h : Iw w base base a c M) {S : Nat → Prop} (ht : Tr S w w') (hs : ∀ g, InIt (.slice a M.length c) M g → ¬ S g) : Iw w' base base a c M :=
  h.kept fun g hg => ht.block g (h.range hg).2 (hs g hg)
theorem its_lenA {M : List ItX} {L : List It} (h : M.map Prod.fst = L) : M.length = L.length := by rw [← h, List.length_map]
theorem Ins2At.s {q : Option Nat} {w : World} {a : Option Addr} {xs : List In} (h : Ins2At q w a xs) : InsS w a xs := fun i x hx => by
  obtain ⟨b, o, g, c, e, _, h0, h1, h2⟩ := h.get hx
  exact ⟨b, o, g, 0, c, e, h0, h1, h2.bare⟩
theorem Ins2At.its {q : Option Nat} {w : World} {a : Option Addr} {xs : List In} (h : Ins2At q w a xs) : ItsAt w a (xs.map inIt) := fun i x hx => by
  rw [List.getElem?_map] at hx
  obtain ⟨y, hy, rfl⟩ := Option.map_eq_some_iff.1 hx
  obtain ⟨b, o, g, c, e, _, h0, h1, h2⟩ := h.get hy
  exact ⟨b, o, some ⟨g, 0, none⟩, c, e, h0, h1, h2.bare⟩
theorem nEnd1_le : ∀ (l : List Nat) (k : Int), nEnd 1 1 k l ≤ k + ((l.length : Int) + (l.sum : Int))
  | [], k => by simp [nEnd]
  | n :: r, k => by
    have h := nEnd1_le r (k + 1 + 1 * (n : Int))
    simp only [nEnd, List.length_cons, List.sum_cons]
    omega
theorem agM_mem {rs : List Ru} {xs : List In} {x : In} (h : x ∈ agM rs xs) : x ∈ xs ∧ placedI rs x = true := by
  unfold agM at h
  split at h
  · rename_i hk
    have hx := (agS_perm rs xs).mem_iff.1 h
    unfold agOk at hk
    simp at hk
    exact ⟨hx, hk.2.2 x hx⟩
  · simp at h
theorem agM_len {rs : List Ru} {xs : List In} : (agM rs xs).length ≤ 1000 := by
  unfold agM
  split
  · rename_i hk
    unfold agOk at hk
    simp at hk
    rw [(agS_perm rs xs).length_eq]
    exact hk.2.1
  · simp
set_option maxRecDepth 100000 in
set_option maxHeartbeats 12800000 in
theorem law_ag (rs : List Ru) (xs : List In) (a : Option Addr) (c : Nat) (xa : Option Addr) (xc : Nat) (w : World) (hv : RusAt none w a rs) (hs0 : ListLe Ru.le maxLen rs) (ho : ∀ x ∈ rs, OpsOk x.exprs) (h_x : InsAt none w xa xs) (hx0 : ListLe In.le maxLen xs) :
    Calls Tryz.prog 3 #[.slice a rs.length c, .slice xa xs.length xc] w fun e w' => e = .returned (.bool true) ∧ Below w.heap.size w w' := by
  have HO := hidA ho
  have HV := hidA hv
  have HF := hidA h_x
  clear ho hv h_x
  go_enter Tryz.func3, Tryz.ntmps3
  go_wp2_with fail
  refine (szRuleS_any a c rs 1048576 _ HV.out hs0 (by omega) (by omega)).mono ?_
  rintro e w1 ⟨⟨r1, rfl, hr1⟩, hb1⟩
  have B1 := hidA hb1
  clear hb1 hs0
  by_cases hn1 : r1 < 0
  · go_wp2_with fail
    go_ret
    exact ⟨rfl, B1.out⟩
  have hsz : szL Ru.sz rs ≤ 1048576 := by rcases hr1 with h | ⟨_, h⟩ <;> omega
  have hr1a : 0 ≤ r1 := by omega
  have hr1b : r1 ≤ 1048576 := by rcases hr1 with h | ⟨_, h⟩ <;> omega
  have hle : ListLe Ru.le 1048576 rs := listLe Ru.le_sz hsz
  have hrw : rsW (rs.map rsOf) ≤ 8388608 := by
    have := rsW_sz rs
    omega
  have HLE := hidA hle
  have hrl : rs.length ≤ 1048576 := hle.1
  clear hr1 hsz hle
  go_wp2_with fail
  refine (szInstS_any xa xc xs r1 w1 (HF.out.below B1.out) hx0 hr1a hr1b).mono ?_
  rintro e w2 ⟨⟨r2, rfl, hr2⟩, hb2⟩
  have B2 := hidA (B1.out.trans (hb2.mono B1.out.size))
  clear hb2 B1 hx0
  by_cases hn2 : r2 < 0
  · go_wp2_with fail
    go_ret
    exact ⟨rfl, B2.out⟩
  have hsz2 : szL In.sz xs ≤ 1048576 := by rcases hr2 with h | ⟨_, h⟩ <;> omega
  have hle2 : ListLe In.le 1048576 xs := listLe In.le_sz hsz2
  have HLX := hidA hle2
  have hxl : xs.length ≤ 1048576 := hle2.1
  have HNS := hidA (fun k : Int => (show nEnd 1 1 k (xs.map fun f => f.tags.length) ≤ k + 1048576 from Int.le_trans (nEnd1_le _ _) (by
    have h1 : (xs.map fun f => f.tags.length).length + (xs.map fun f => f.tags.length).sum ≤ 1048576 := by
      rw [List.length_map]
      exact hsz2
    omega)))
  have HNG := hidA (fun k : Int => nEnd_ge 1 1 (by omega) (by omega) (xs.map fun f => f.tags.length) k)
  have TR := hidA (fun w' (h : Below w.heap.size w w') => toRuleS_any a c rs w' (HV.out.below h) HLE.out)
  have TF := hidA (fun w' (h : Below w.heap.size w w') => toInstS_any xa xc xs w' (HF.out.below h) HLX.out)
  have SC := hidA (fun w' g B g' B' (h : RusAt (some B) w' (some ⟨g, 0, none⟩) rs) (hf : Ins2At (some B') w' (some ⟨g', 0, none⟩) xs) => sAgenda_any rs xs (some ⟨g, 0, none⟩) rs.length (some ⟨g', 0, none⟩) xs.length w' h (Nat.le_refl _) HLE.out HO.out hf.s hxl HLX.out.2)
  have IC := hidA (fun w' g B g' B' (h : RusAt (some B) w' (some ⟨g, 0, none⟩) rs) (hf : Ins2At (some B') w' (some ⟨g', 0, none⟩) xs) => iAgenda_any rs xs (some ⟨g, 0, none⟩) rs.length (some ⟨g', 0, none⟩) xs.length w' h (Nat.le_refl _) HLE.out HO.out hf.s hxl HLX.out.2)
  have EQX := hidA (fun a a' c c' w' (h : ItsAt w' a (xs.map inIt)) (h' : ItsAt w' a' (xs.map inIt)) => eqInstS_same a a' c c' (xs.map inIt) w' h h' (by rw [List.length_map]; exact hxl) (fun x hx => by obtain ⟨y, hy, rfl⟩ := List.mem_map.1 hx; exact HLX.out.2 y hy))
  rw [List.length_map] at EQX
  obtain ⟨L, hL⟩ : ∃ l, l = (agM rs xs).map inIt := ⟨_, rfl⟩
  have h6' : ∀ x ∈ L, x.tags.length ≤ 6 := fun x hx => by
    rw [hL] at hx
    obtain ⟨y, hy, rfl⟩ := List.mem_map.1 hx
    have h1 := (agM_mem hy).2
    simp only [placedI, Bool.and_eq_true, decide_eq_true_eq] at h1
    have h2 : y.tags.length ≤ 3 := h1.2.2
    show y.tags.length ≤ 6
    omega
  have hml' : L.length ≤ 1000 := by rw [hL, List.length_map]; exact agM_len
  rw [← hL] at SC IC
  have hml : L.length ≤ 1048576 := by omega
  have H6' := hidA (show ∀ x ∈ L, x.tags.length ≤ 1048576 from fun x hx => by have := h6' x hx; omega)
  have HN6 := hidA (show ∀ n ∈ lensOf L, n ≤ 6 from fun n hn => by obtain ⟨x, hx, rfl⟩ := List.mem_map.1 hn; exact h6' x hx)
  have EQ := hidA (fun a a' c c' w' (h : ItsAt w' a L) (h' : ItsAt w' a' L) => eqInstS_same a a' c c' L w' h h' hml H6'.out)
  clear hr2 hsz2 hr1a hr1b h6' hL hle2
  go_wp2_with fail
  refine (TR.out w2 B2.out).mono ?_
  rintro e w3 ⟨⟨g3, hg3, rfl, i3⟩, hb3⟩
  have B3 := hidA (B2.out.trans (hb3.mono B2.out.size))
  have s3 := hb3.size
  have I3 := hidA i3
  clear i3 hb3
  go_wp2_with fail
  refine (TF.out w3 B3.out).mono ?_
  rintro e w4 ⟨⟨g4, hg4, rfl, i4⟩, hb4⟩
  have B4 := hidA (B3.out.trans (hb4.mono B3.out.size))
  have s4 := hb4.size
  have I4 := hidA (I3.out.below hb4)
  have F4 := hidA i4
  clear hb4 i4 I3
  go_wp2_with fail
  refine (SC.out w4 g3 _ g4 _ I4.out F4.out).mono ?_
  rintro e w5 ⟨⟨a5, c5, M5, rfl, io5, hm5⟩, hb5⟩
  have B5 := hidA (B4.out.trans (hb5.mono B4.out.size))
  have s5 := hb5.size
  have O5 := hidA io5
  have R5 := hidA (fun g (hg : InIt (.slice a5 M5.length c5) M5 g) => (io5.range hg).2)
  have HM5 := hidA hm5
  have hl5 := its_lenA hm5
  rw [hl5]
  clear io5 hm5 hb5 I4 F4 SC hl5
  go_wp2_with fail
  refine (TR.out w5 B5.out).mono ?_
  rintro e w6 ⟨⟨g6, hg6, rfl, i6⟩, hb6⟩
  have B6 := hidA (B5.out.trans (hb6.mono B5.out.size))
  have s6 := hb6.size
  have O6 := hidA (O5.out.bel hb6)
  have I6 := hidA i6
  have NR6 := hidA (RusAt.nest i6 (Nat.le_refl _))
  clear i6 hb6 O5
  go_wp2_with fail
  refine (TF.out w6 B6.out).mono ?_
  rintro e w7 ⟨⟨g7, hg7, rfl, i7⟩, hb7⟩
  have B7 := hidA (B6.out.trans (hb7.mono B6.out.size))
  have s7 := hb7.size
  have O7 := hidA (O6.out.bel hb7)
  have I7 := hidA (I6.out.below hb7)
  have NR7 := hidA (NR6.out.tr (Tr.of_below (S := fun _ => True) hb7))
  have F7 := hidA i7
  have NF7 := hidA (Ins2At.nest i7 (Nat.le_refl _))
  clear hb7 i7 I6 O6 NR6
  go_wp2_with fail
  refine (IC.out w7 g6 _ g7 _ I7.out F7.out).mono ?_
  rintro e w8 ⟨⟨a8, c8, M8, rfl, io8, hm8, hp8⟩, hb8⟩
  have B8 := hidA (B7.out.trans (hb8.mono B7.out.size))
  have s8 := hb8.size
  have O8 := hidA (O7.out.bel hb8)
  have I8 := hidA (I7.out.below hb8)
  have F8 := hidA (F7.out.below hb8)
  have NR8 := hidA (NR7.out.tr (Tr.of_below (S := fun _ => True) hb8))
  have NF8 := hidA (NF7.out.tr (Tr.of_below (S := fun _ => True) hb8))
  have G8 := hidA io8
  have HM8 := hidA hm8
  have HP8 := hidA hp8
  have hl8 := its_lenA hm8
  rw [hl8]
  have HL8 := hidA hl8
  have EQ1 := hidA (fun w' (h : Iw w' w7.heap.size w7.heap.size a8 c8 M8) (h' : Iw w' w4.heap.size w4.heap.size a5 c5 M5) => EQ.out a8 a5 c8 c5 w' (by rw [← HM8.out]; exact h.at) (by rw [← HM5.out]; exact h'.at))
  clear io8 hm8 hp8 hb8 I7 F7 O7 NR7 NF7 hl8
  go_wp2_with fail
  refine (EQ1.out w8 G8.out O8.out).mono ?_
  rintro e w9 ⟨rfl, hb9⟩
  have B9 := hidA (B8.out.trans (hb9.mono B8.out.size))
  have s9 := hb9.size
  have O9 := hidA (O8.out.bel hb9)
  have G9 := hidA (G8.out.bel hb9)
  have I9 := hidA (I8.out.below hb9)
  have F9 := hidA (F8.out.below hb9)
  have NR9 := hidA (NR8.out.tr (Tr.of_below (S := fun _ => True) hb9))
  have NF9 := hidA (NF8.out.tr (Tr.of_below (S := fun _ => True) hb9))
  clear hb9 O8 G8 I8 F8 NR8 NF8
  go_wp2_with fail
  refine (TR.out w9 B9.out).mono ?_
  rintro e w10 ⟨⟨g10, hg10, rfl, i10⟩, hb10⟩
  have B10 := hidA (B9.out.trans (hb10.mono B9.out.size))
  have s10 := hb10.size
  have O10 := hidA (O9.out.bel hb10)
  have G10 := hidA (G9.out.bel hb10)
  have I10 := hidA (I9.out.below hb10)
  have F10 := hidA (F9.out.below hb10)
  have NR10 := hidA (NR9.out.tr (Tr.of_below (S := fun _ => True) hb10))
  have NF10 := hidA (NF9.out.tr (Tr.of_below (S := fun _ => True) hb10))
  clear hb10 O9 G9 I9 F9 NR9 NF9
  go_wp2_with fail
  refine (eqRuleS_same (some ⟨g6, 0, none⟩) (some ⟨g10, 0, none⟩) rs.length rs.length rs w10 I10.out i10 HLE.out).mono ?_
  rintro e w11 ⟨rfl, hb11⟩
  have B11 := hidA (B10.out.trans (hb11.mono B10.out.size))
  have s11 := hb11.size
  have O11 := hidA (O10.out.bel hb11)
  have G11 := hidA (G10.out.bel hb11)
  have F11 := hidA (F10.out.below hb11)
  have NR11 := hidA (NR10.out.tr (Tr.of_below (S := fun _ => True) hb11))
  have NF11 := hidA (NF10.out.tr (Tr.of_below (S := fun _ => True) hb11))
  clear hb11 i10 O10 G10 I10 F10 NR10 NF10
  go_wp2_with fail
  refine (TF.out w11 B11.out).mono ?_
  rintro e w12 ⟨⟨g12, hg12, rfl, i12⟩, hb12⟩
  have B12 := hidA (B11.out.trans (hb12.mono B11.out.size))
  have s12 := hb12.size
  have O12 := hidA (O11.out.bel hb12)
  have G12 := hidA (G11.out.bel hb12)
  have F12 := hidA (F11.out.below hb12)
  have NR12 := hidA (NR11.out.tr (Tr.of_below (S := fun _ => True) hb12))
  have NF12 := hidA (NF11.out.tr (Tr.of_below (S := fun _ => True) hb12))
  have H12 := hidA i12
  clear hb12 i12 O11 G11 F11 NR11 NF11
  go_wp2_with fail
  refine (EQX.out _ _ _ _ w12 F12.out.its H12.out.its).mono ?_
  rintro e w13 ⟨rfl, hb13⟩
  have B13 := hidA (B12.out.trans (hb13.mono B12.out.size))
  have s13 := hb13.size
  have O13 := hidA (O12.out.bel hb13)
  have G13 := hidA (G12.out.bel hb13)
  have NR13 := hidA (NR12.out.tr (Tr.of_below (S := fun _ => True) hb13))
  have NF13 := hidA (NF12.out.tr (Tr.of_below (S := fun _ => True) hb13))
  clear hb13 O12 G12 F12 H12 NR12 NF12
  have hMX := hidA (markRuleS_tr (Seg w5.heap.size w6.heap.size) (some ⟨g6, 0, none⟩) (rs.map rsOf) rs.length 1 w13 NR13.out (by rw [List.length_map]; exact hrl) (fun x hx => rs_le HLE.out hx) (by omega) (by omega))
  rw [List.length_map] at hMX
  obtain ⟨k1, hk1⟩ : ∃ z : Int, z = 1 + (rsW (rs.map rsOf) : Int) := ⟨_, rfl⟩
  rw [← hk1] at hMX
  have hk1a : 0 < k1 := by omega
  have hk1b : k1 ≤ 8388609 := by omega
  clear hk1 hrw
  go_wp2_with fail
  refine hMX.out.mono ?_
  rintro e w14 ⟨rfl, t14⟩
  have h14 : Below w.heap.size w13 w14 := t14.below B13.out.size (fun g hg => by have h1 := B5.out.size; have h2 := hg.1; omega)
  have B14 := hidA (B13.out.trans h14)
  have s14 := h14.size
  have G14 := hidA (G13.out.trA t14 (fun g hg hS => by have h1 := (G13.out.range hg).1; have h2 := hS.2; omega))
  have O14 := hidA (O13.out.trA t14 (fun g hg hS => by have h1 := R5.out g hg; have h2 := hS.1; omega))
  have NF14 := hidA (NF13.out.tr t14)
  clear G13 O13 NR13 NF13 t14 h14 hMX
  have hMF := hidA (markInstS_tr (Seg w6.heap.size w7.heap.size) (some ⟨g7, 0, none⟩) (xs.map fun f => f.tags.length) xs.length k1 w14 NF14.out (by rw [List.length_map]; exact hxl) (fun n hn => by obtain ⟨f, hf, rfl⟩ := List.mem_map.1 hn; exact HLX.out.2 f hf) hk1a (by have := HNS.out k1; omega))
  rw [List.length_map] at hMF
  obtain ⟨k2, hk2⟩ : ∃ z : Int, z = nEnd 1 1 k1 (xs.map fun f => f.tags.length) := ⟨_, rfl⟩
  have hk2a : 0 < k2 := by have := HNG.out k1; omega
  have hk2b : ¬ k2 < 0 := by omega
  rw [← hk2] at hMF
  clear hk2
  go_wp2_with fail
  refine hMF.out.mono ?_
  rintro e w15 ⟨rfl, t15⟩
  have h15 : Below w.heap.size w14 w15 := t15.below B14.out.size (fun g hg => by have h1 := B6.out.size; have h2 := hg.1; omega)
  have B15 := hidA (B14.out.trans h15)
  have s15 := h15.size
  have G15 := hidA (G14.out.trA t15 (fun g hg hS => by have h1 := (G14.out.range hg).1; have h2 := hS.2; omega))
  have O15 := hidA (O14.out.trA t15 (fun g hg hS => by have h1 := R5.out g hg; have h2 := hS.1; omega))
  clear G14 O14 NF14 t15 h15 hMF
  go_wp2_with fail
  refine (EQ1.out w15 G15.out O15.out).mono ?_
  rintro e w16 ⟨rfl, hb16⟩
  have B16 := hidA (B15.out.trans (hb16.mono B15.out.size))
  have s16 := hb16.size
  have O16 := hidA (O15.out.bel hb16)
  have G16 := hidA (G15.out.bel hb16)
  clear hb16 O15 G15 hk2b
  have HMI := hidA (markInstS_any M8 a8 c8 w7.heap.size w16 G16.out HP8.out (by rw [HL8.out]; exact hml) (by rw [HM8.out]; exact HN6.out) (by omega))
  rw [HL8.out, HM8.out] at HMI
  have hend := iEnd_le (N := 6) (lensOf L) 1 HN6.out
  have hlen : (lensOf L).length = L.length := by simp [lensOf]
  have b1 : ¬ iEnd 1 (lensOf L) < 0 := by omega
  obtain ⟨E, hE⟩ : ∃ z, z = iEnd 1 (lensOf L) := ⟨_, rfl⟩
  rw [← hE] at HMI b1
  go_wp2_with fail
  refine HMI.out.mono ?_
  rintro e w17 ⟨rfl, it17, h17⟩
  have B17 := hidA (B16.out.trans (h17.mono (by have := B7.out.size; omega)))
  have s17 := h17.size
  have O17 := hidA (O16.out.kept (fun g hg => h17.block g (by have := R5.out g hg; omega)))
  have HHI := hidA (heldInstS_any (lensOf L) a8 c8 w17 it17 (by rw [hlen]; exact hml) HN6.out)
  rw [hlen, ← hE] at HHI
  clear it17 h17 HMI O16 G16 hE hend hlen
  go_wp2_with fail
  refine HHI.out.mono ?_
  rintro e w18 ⟨rfl, hb18⟩
  have B18 := hidA (B17.out.trans (hb18.mono B17.out.size))
  have s18 := hb18.size
  have O18 := hidA (O17.out.bel hb18)
  clear hb18 O17 HHI
  go_wp2_with fail
  refine (TR.out w18 B18.out).mono ?_
  rintro e w19 ⟨⟨g19, hg19, rfl, i19⟩, hb19⟩
  have B19 := hidA (B18.out.trans (hb19.mono B18.out.size))
  have s19 := hb19.size
  have O19 := hidA (O18.out.bel hb19)
  have I19 := hidA i19
  clear i19 hb19 O18
  go_wp2_with fail
  refine (TF.out w19 B19.out).mono ?_
  rintro e w20 ⟨⟨g20, hg20, rfl, i20⟩, hb20⟩
  have B20 := hidA (B19.out.trans (hb20.mono B19.out.size))
  have s20 := hb20.size
  have O20 := hidA (O19.out.bel hb20)
  have I20 := hidA (I19.out.below hb20)
  have F20 := hidA i20
  clear hb20 i20 I19 O19
  go_wp2_with fail
  refine (IC.out w20 g19 _ g20 _ I20.out F20.out).mono ?_
  rintro e w21 ⟨⟨a21, c21, M21, rfl, io21, hm21, _⟩, hb21⟩
  have B21 := hidA (B20.out.trans (hb21.mono B20.out.size))
  have s21 := hb21.size
  have O21 := hidA (O20.out.bel hb21)
  have G21 := hidA (show ItsAt w21 a21 L by rw [← hm21]; exact io21.at)
  have OA21 := hidA (show ItsAt w21 a5 L by rw [← HM5.out]; exact O21.out.at)
  have hl21 := its_lenA hm21
  rw [hl21]
  clear io21 hm21 hb21 I20 F20 O20 O21 hl21
  go_wp2_with fail
  refine (EQ.out a21 a5 c21 c5 w21 G21.out OA21.out).mono ?_
  rintro e w22 ⟨rfl, hb22⟩
  have B22 := hidA (B21.out.trans (hb22.mono B21.out.size))
  have s22 := hb22.size
  clear hb22 G21 OA21
  go_wp2_with fail
  go_ret
  exact ⟨rfl, B22.out⟩
end Go.Proofs.YtofflfaineodmaaGreat

namespace Go.Proofs.YtofflfaineodmaaGreat
open Go.ChangeShapes Go.WideShapes Go.ChangeAt Go.RowKit Go.Joins
open Go.ChangeMaps (open_string shut_string)

set_option maxRecDepth 100000 in
theorem ag_lifted (os : Os) (started : os.Started) (H : Type) (enc : TypeId × Value → H) :
    ReturnsInHanded {} Tryz.checked os 3 .any (Rows.fnExactAgendaSpec.pre6 enc Tryz.prog Tryz.f3 Rows.fnExactAgendaRow.domain false) (Rows.fnExactAgendaSpec.post enc Tryz.prog Tryz.f3 false true false false) := by
  refine returnsInHanded_of_change (C := Tryz.checked) ownK started (by kernel_rfl) Tryz.func3
    (ChangeSpec.witness6 (enc := enc) (C := Tryz.checked) false ⟨#[], #[.slice none 0 0, .slice none 0 0], []⟩ 8 (by kernel_rfl) (by kernel_rfl) (by kernel_rfl) (by kernel_rfl)) ?_
  intro W base args ds gs before hval0 hW hcnd _
  have hval : ∀ (j : Nat) t v, Tryz.f3.params[j]? = some t → args[j]? = some v → Value.okWide Tryz.prog W .any base t v := hval0
  have hW' := hW
  obtain ⟨p, q, hA0, hV, rfl, hfz, hnd⟩ := hW
  have hA : DataW.TrodAll enc Tryz.prog W 0 (fun _ => true) true Tryz.f3.params.toList args.toList ds p := hA0
  rw [Tryz.params3] at hA hval
  obtain ⟨v0, vs0, d0, ds0, p0, q0, hargs, rfl, rfl, h0, r0⟩ := trodAll_cons hA
  obtain ⟨v1, vs1, d1, ds1, p1, q1, hvs1, rfl, rfl, h1, r1⟩ := trodAll_cons r0
  obtain ⟨rfl, rfl, rfl⟩ := trodAll_nil r1
  obtain rfl : args = #[v0, v1] := by cases args; simp_all
  obtain ⟨rfl, rfl⟩ := trodVars_none hV
  have k0 := h0
  have lt0 : ∀ x ∈ p0, x.block < W.heap.size := by obtain ⟨m, hm⟩ := k0; exact DataW.trod_lt m _ _ _ hm
  have k1 := h1
  have lt1 : ∀ x ∈ p1, x.block < W.heap.size := by obtain ⟨m, hm⟩ := k1; exact DataW.trod_lt m _ _ _ hm
  obtain ⟨sa, sn, sc, rfl⟩ := okWide_slice Tryz.underlying22 (hval 0 22 v0 rfl rfl)
  obtain ⟨m2, hm2⟩ := h0
  obtain ⟨sa', sc', rs, e4, hsv, _, hvm, hvs⟩ := rd_Rules hm2
  simp only [Value.cells, List.cons.injEq, and_true, Value.slice.injEq] at e4
  obtain ⟨rfl, rfl, rfl⟩ := e4
  obtain ⟨fa, fn, fc, rfl⟩ := okWide_slice Tryz.underlying23 (hval 1 23 v1 rfl rfl)
  obtain ⟨m1, hm1⟩ := h1
  obtain ⟨fa', fc', xs, e1, hx, _, hxm, hxs⟩ := rd_Insts hm1
  simp only [Value.cells, List.cons.injEq, and_true, Value.slice.injEq] at e1
  obtain ⟨rfl, rfl, rfl⟩ := e1
  clear hA0 hval0
  refine (law_ag rs xs _ _ _ _ W hsv ⟨hvm, fun v hv => (hvs v hv).1⟩ (fun v hv => (hvs v hv).2) hx ⟨hxm, hxs⟩).mono fun e W' ⟨he, bel⟩ => ?_
  subst he
  exact ⟨_, rfl, _, _, _, [], _, [], hW', trodAll_mk1 (shut_bool Tryz.underlying4 _), (trodAll_cons_mk (Below.trod laidOut (by kernel_rfl) (of_decide_eq_true (by kernel_rfl)) k0 bel lt0) (trodAll_cons_mk (Below.trod laidOut (by kernel_rfl) (of_decide_eq_true (by kernel_rfl)) k1 bel lt1) trodAll_mk0)), rfl, bel.frame _, fun h => by cases h⟩

theorem fnExactAgenda_holds : Rows.FnExactAgendaSaid :=
  OpenClaim.holds_of_wide 3 Tryz.f3 rfl rfl rfl rfl rfl rfl rfl ⟨rfl, rfl, rfl, rfl, rfl⟩ rfl rfl rfl rfl rfl (by kernel_rfl) Tryz.func3 (by kernel_rfl)
    (of_decide_eq_true (by kernel_rfl)) (by unfold Func.isWrapper; first | (rw [if_pos (by decide +kernel)]; kernel_rfl) | (rw [if_neg (by decide +kernel)]; exact ⟨rfl, rfl⟩))
    (fun os started H enc _ => ag_lifted os started H enc)
#print axioms fnExactAgenda_holds
end Go.Proofs.YtofflfaineodmaaGreat
